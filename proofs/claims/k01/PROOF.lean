import PyProof.Rows.All
import Wide.All
import OpenK.AllK
import Wide.FinOn
import KE.KStateDown
import HandS.ForMost
import HandS.Wide
import HandS.Exc
import HandS.Defaults
import HandS.HeadEnd
import HandS.HeadHook1
import HandS.HeadHook2
import PyProof.ReprRoads
import HandS.Head0
import HandS.Head1
import HandS.Head2
import HandS.IsInst
import HandS.Strs
import HandS.SetFor
import HandS.Sort
import HandS.SortRule
import KE.GoesEnum
import HandS.TupAny
import HandS.Zip
import HandS.Flow
import HandS.FStr
import HandS.Style
import HandS.Walk
import PyProof.RangeFor
import PyProof.FactsAll.range_2
import HandS.OwnEq
import OpenK.KOps
import KE.KFmtOwn
import KE.KRevSl
import HandS.MakeKw
import PySem.Challenge.RW_leasepair_k01_pools_made
set_option Elab.async false
set_option linter.all false
set_option maxRecDepth 100000
set_option maxHeartbeats 4000000
namespace My
open PySem PySem.Spec PyProof.Rows L2
section
variable {X : Cx}
/-! ### powers of great ints -/
def CPowW (i j : Int) : Prop := 0 ≤ j ∧ (Builtin.Int.intBits i : Int) * j ≤ 2 ^ 27
theorem op_powW : OpR X (binaryOp .Pow) (rI CPowW fun i j => .int (i ^ j.toNat)) := opI fun _ _ _ _ _ _ _ hc q => pow_int hc.1 hc.2 q
theorem powW_of {i : Int} {n : Nat} (h : i.natAbs < 2 ^ n) (hn : 0 < n) (h2 : n ≤ 1000000) : CPowW i 3 := by
  have b : Builtin.Int.intBits i ≤ i.natAbs.log2 + 1 := by
    unfold Builtin.Int.intBits
    split <;> omega
  have l := PySem.Flt.log2_lt_of hn h
  refine ⟨by decide, ?_⟩
  have e : (2 : Int) ^ 27 = 134217728 := by decide
  rw [e]
  omega
/-! ### o.m(e, .., k = v, ..) -/
def tMethN (C : Addr) (m : Str) (n j : Nat) (sp : Sp) (gV : List V → List V → List V) (E : XK) (ta : TE) (t tk : TA) : TE := fun σ H Q => ta σ H fun x H1 => ∃ a dx fs, x = .ref a ∧ H1 a = some (.ins C dx fs) ∧ fs.lookup m = none ∧
  t σ H1 fun vs H2 => tk σ H2 fun zs H3 => (x :: vs).length = n ∧ zs.length = j ∧ sp (gV (x :: vs) zs) H3 Q E
variable {o e : Expr} {es : List Expr} {m : Str} {apos pos : Pos} {C f : Addr} {CX : CXT} {k n : Nat} {fd : FuncData} {ps ks : List Str} {sp : Sp} {E : XK} {kws : List Keyword} {ta : TE} {t tk : TA} {g : List Value → List Value → List Value} {gV : List V → List V → List V}
theorem pe_methN {pl : Sem Bool} (he : PE X o ta) (c : Cls X.K C) (hm : Meth X.K C m f) (F : FnOk X.prog X.w X.K X.mg X.base CX k f fd ps sp) (hr : Room k X.A) (hb : KBn X.K fd ps n ks g gV) (hx : Passes CX X E) (ha : PA X (e :: es) t) (hkw : PK X kws tk)
    (hall : (backToKw pos (keywordEach kws X.env)).all (·.1.isSome) = true := by rfl) (hks : (backToKw pos (keywordEach kws X.env)).filterMap (·.1) = ks := by rfl)
    (hst : starEach (e :: es) X.env = (false, eval e X.env) :: starEach es X.env := by rfl)
    (hpl : ((backTo pos (starEach (e :: es) X.env)).any (·.1) || (backToKw pos (keywordEach kws X.env)).any (·.1.isNone)) = false := by rfl)
    (ht : eval (.Call (.Attribute o m apos) (e :: es) kws pos) X.env = (do
      let ov ← eval o X.env
      standAt apos.atName
      let (f, first) ← holding [ov] (getMethod ov m pl)
      callWith pos f first (backTo pos (starEach (e :: es) X.env)) (backToKw pos (keywordEach kws X.env))) := by rfl) :
    PE X (.Call (.Attribute o m apos) (e :: es) kws pos) (tMethN C m n ks.length sp gV E ta t tk) := by
  refine ⟨fun pins s σ H Q I h => PySem.W.methodCall_KW (pl := pl) (thn (he.run pins s σ H _ I h) fun u s1 ⟨x, H1, I1, rx, a, dx, fs, ex, ea, l, q⟩ => ?_) ht⟩
  subst ex
  obtain rfl : u = Value.ref a := rx
  refine getmeth_ok I1 ea c hm l (PySem.W.callWith_KW (first := [.ref a]) (h₀ := X.base) I.ok.mod.kin hm.kp hall (thn (ha.run pos pins s1 σ H1 _ I1 q) fun us s2 ⟨vs, H2, I2, r, q2⟩ => ?_) hpl hst)
  refine thn (hkw.run pos pins s2 σ H2 _ I2 q2) fun ws s3 ⟨zs, H3, I3, rz, l1, l2, q3⟩ => ⟨I3.kIn, ?_⟩
  rw [hks]
  exact run_fnN (us := .ref a :: us) (vs := .ref a :: vs) F hr hb hx I3 (.cons rfl r) rz l1 l2 q3
theorem pe_methN0 {pl : Sem Bool} (he : PE X o ta) (c : Cls X.K C) (hm : Meth X.K C m f) (F : FnOk X.prog X.w X.K X.mg X.base CX k f fd ps sp) (hr : Room k X.A) (hb : KBn X.K fd ps n ks g gV) (hx : Passes CX X E) (hkw : PK X kws tk)
    (hall : (backToKw pos (keywordEach kws X.env)).all (·.1.isSome) = true := by rfl) (hks : (backToKw pos (keywordEach kws X.env)).filterMap (·.1) = ks := by rfl)
    (hpl : ((backTo pos (starEach [] X.env)).any (·.1) || (backToKw pos (keywordEach kws X.env)).any (·.1.isNone)) = false := by rfl)
    (ht : eval (.Call (.Attribute o m apos) [] kws pos) X.env = (do
      let ov ← eval o X.env
      standAt apos.atName
      let (f, first) ← holding [ov] (getMethod ov m pl)
      callWith pos f first (backTo pos (starEach [] X.env)) (backToKw pos (keywordEach kws X.env))) := by rfl) :
    PE X (.Call (.Attribute o m apos) [] kws pos) (tMethN C m n ks.length sp gV E ta tNil tk) := by
  refine ⟨fun pins s σ H Q I h => PySem.W.methodCall_KW (pl := pl) (thn (he.run pins s σ H _ I h) fun u s1 ⟨x, H1, I1, rx, a, dx, fs, ex, ea, l, q⟩ => ?_) ht⟩
  subst ex
  obtain rfl : u = Value.ref a := rx
  refine getmeth_ok I1 ea c hm l (PySem.W.callWith_KW0 (first := [.ref a]) (h₀ := X.base) I.ok.mod.kin hm.kp hall ?_ hpl)
  refine thn (hkw.run pos pins s1 σ H1 _ I1 q) fun ws s3 ⟨zs, H3, I3, rz, l1, l2, q3⟩ => ⟨I3.kIn, ?_⟩
  rw [hks]
  exact run_fnN (us := [.ref a]) (vs := [.ref a]) F hr hb hx I3 (.cons rfl .nil) rz l1 l2 q3
end
end My
namespace My
open PySem PySem.Spec PyProof.Rows L2
/-! ### defs that are called where nothing is being shown (repr of lists and tuples asks for it) -/
structure FnG (P : Program) (w : World) (K : PySem.W.Frag) (mg : Str → Option Value) (base : Heap) (CX : CXT) (k : Nat) (f : Addr) (fd : FuncData) (ps : List Str) (sp : Sp) : Prop where
  len : ∀ vs H Q E, sp vs H Q E → vs.length = ps.length
  run : ∀ (A : Around) (outer : List Env) (s : Shared) (H : Hp) (args : Args) (us : List Value) (vs : List V) (Q : VK) (E : XK), A.guards = some [] → Room k A → Env0 P w K mg base A outer s H → BindsTo s fd args (ps.zip us) → Vals vs us → sp vs H Q E →
    codeAny (model P w) A (.call (.ref f) args) (CR CX outer P w H s Q E) s
section
variable {P : Program} {w : World} {K : PySem.W.Frag} {mg : Str → Option Value} {base : Heap} {CX : CXT} {k : Nat} {f : Addr} {fd : FuncData} {ps : List Str} {sp : Sp}
theorem FnG.of (F : FnOk P w K mg base CX k f fd ps sp) : FnG P w K mg base CX k f fd ps sp := ⟨F.len, fun A outer s H args us vs Q E _ => F.run A outer s H args us vs Q E⟩
theorem FnG.mono {j : Nat} (F : FnG P w K mg base CX j f fd ps sp) (h : j ≤ k) : FnG P w K mg base CX k f fd ps sp := ⟨F.len, fun A outer s H args us vs Q E g hr => F.run A outer s H args us vs Q E g (hr.mono h)⟩
/-- the rule for such a def -/
theorem fnG {x qual : Str} {params : Arguments} {body : List Stmt} {scope : Scope} {dvs : List V} {kws : List (Str × V)} {N : List Str} (F : FunD K x qual params body scope dvs kws f fd) (S : FnScope N ps scope) (len : ∀ vs H Q E, sp vs H Q E → vs.length = ps.length)
    (hb : ∀ (cdv : Value) (A : Around) (outer : List Env) (s : Shared) (H : Hp) (vs : List V) (Q : VK) (E : XK), (A.deeper (envOfC qual scope s.heap.objs.size f cdv)).guards = some [] → Room k (A.deeper (envOfC qual scope s.heap.objs.size f cdv)) → sp vs H Q E →
      ∃ t, PSs (cxOf CX P w K mg base N qual scope f cdv A outer s H E) body t ∧ t { nx := fun _ H' => Q .non H', rt := Q } (start N vs) H) : FnG P w K mg base CX (k + 1) f fd ps sp := by
  obtain ⟨oc, od, dV, kV, doc, pm, an, cdv, ct, osl, rfl, lk, cd, _, _⟩ := F.ex
  refine ⟨len, fun A outer s H args us vs Q E hg hr e0 bt r sp0 => ?_⟩
  have kin : K.In s.heap := e0.mod.kin.keeps fun b o e => (e0.bs b o e).1
  have lim : s.heap.NoLimit := e0.mod.nolimit.keeps fun b o e => (e0.bs b o e).1
  refine codeAny_call_function hr.depth (kin _ _ lk) rfl S.co S.gen rfl (PySem.W.codeRec_of kin cd) (bt _ _ _ _ (wpAny_newFunctionEnv_cells S.kind (fun ⟨n, v⟩ hy => ?_) fun env he s1 x => ?_))
  · rcases S.par n (List.of_mem_zip hy).1 with q | q
    · exact .inl q
    · exact .inr ⟨q, PySem.W.cellsFrom_some _ _ _ (.inl q)⟩
  · subst he
    obtain ⟨t, ht, hq⟩ := hb cdv A outer s H vs Q E hg (hr.deeper _) sp0
    refine ⟨lim.keeps x.toInCall.keep, codeAny_func (wpAny_mono (ht.run [] s1 (start N vs) H _ (inv_start S hr.hd e0 (len _ _ _ _ sp0) r x) hq) (fun fl s' z => ?_) fun e s' z => z)⟩
    cases fl with
    | ret u => obtain ⟨v, σ', H', J, rv, q⟩ := z; exact ⟨v, H', J.os, J.bare, J.base, J.hok, rv, q⟩
    | next => obtain ⟨σ', H', J, q⟩ := z; exact ⟨.non, H', J.os, J.bare, J.base, J.hok, rfl, q⟩
    | brk => obtain ⟨_, _, _, q⟩ := z; exact q.elim
    | cont => obtain ⟨_, _, _, q⟩ := z; exact q.elim
end
/-! ### what a caller needs of a callee -/
/-- f called with n values and the keywords ks; g puts them into the parameters' order -/
def Runs (X : Cx) (f : Addr) (n : Nat) (ks : List Str) (gV : List V → List V → List V) (sp : Sp) (E : XK) : Prop :=
  ∀ (pins : List (Addr × Obj)) (s : Shared) (σ : L2.St) (H : Hp) (us ws : List Value) (vs zs : List V) (Q : VK), Inv X pins σ H s → Vals vs us → Vals zs ws → vs.length = n → zs.length = ks.length → sp (gV vs zs) H Q E →
    wpAny (model X.prog X.w) X.A (call (.ref f) us (ks.zip ws)) (EP X pins σ Q) X.xe s
section
variable {X : Cx} {CX : CXT} {k n : Nat} {f : Addr} {fd : FuncData} {ps ks : List Str} {sp : Sp} {E : XK} {g : List Value → List Value → List Value} {gV : List V → List V → List V}
theorem Runs.ok (F : FnOk X.prog X.w X.K X.mg X.base CX k f fd ps sp) (hr : Room k X.A) (hb : KBn X.K fd ps n ks g gV) (hx : Passes CX X E) : Runs X f n ks gV sp E :=
  fun pins s σ H us ws vs zs Q I r rz l1 l2 h => run_fnN F hr hb hx I r rz l1 l2 h
theorem Runs.gd (F : FnG X.prog X.w X.K X.mg X.base CX k f fd ps sp) (hg : X.A.guards = some []) (hr : Room k X.A) (hb : KBn X.K fd ps n ks g gV) (hx : Passes CX X E) : Runs X f n ks gV sp E := by
  intro pins s σ H us ws vs zs Q I r rz l1 l2 h
  refine wpAny_call (codeAny_mono (F.run X.A X.stack s H ⟨us, ks.zip ws⟩ (g us ws) (gV vs zs) Q E hg hr I.env0 (hb.to s us ws I.kIn (r.length.symm.trans l1) (rz.length.symm.trans l2)) (hb.rel r rz) h) fun r s' hq => ?_)
  cases r with
  | error e => exact hx pins σ H s e s' I hq
  | ok fl => cases fl with
    | ret u => exact I.after hq
    | next => exact hq.elim
    | brk => exact hq.elim
    | cont => exact hq.elim
/-- no keywords: the defaults dvs fill up -/
theorem Binds.kbn {dvs : List V} {ds : List Value} (hb : Binds X.K fd ps ds) (hd : Vals dvs ds) (hn : n + ds.length = ps.length) : KBn X.K fd ps n [] (fun us _ => us ++ ds) (fun vs _ => vs ++ dvs) :=
  ⟨fun s us ws kin l1 l2 => by
    have e : ws = [] := List.length_eq_zero_iff.mp l2
    subst e
    exact hb s us kin (by rw [List.length_append]; omega), fun r _ => r.append hd⟩
variable {x : Str} {p pos apos : Pos} {e o : Expr} {es : List Expr} {kws : List Keyword} {t tk : TA} {ta : TE} {m : Str} {C : Addr}
/-- f(e, .., k = v, ..) -/
theorem pe_run (R : Runs X f n ks gV sp E) (hm : X.mg x = some (.ref f)) (hk : PySem.W.keepIn X.K (.ref f) = true) (hg : Gl X x)
    (ha : PA X (e :: es) t) (hkw : PK X kws tk) (hall : (backToKw pos (keywordEach kws X.env)).all (·.1.isSome) = true := by rfl) (hks : (backToKw pos (keywordEach kws X.env)).filterMap (·.1) = ks := by rfl)
    (hdb : (x == ("__debug__" : Str)) = false := by decide) (he : starEach (e :: es) X.env = (false, eval e X.env) :: starEach es X.env := by rfl)
    (hpl : ((backTo pos (starEach (e :: es) X.env)).any (·.1) || (backToKw pos (keywordEach kws X.env)).any (·.1.isNone)) = false := by rfl) :
    PE X (.Call (.Name x p) (e :: es) kws pos) (tCallN n ks.length sp gV E t tk) := by
  refine ⟨fun pins s σ H Q I h => wpAny_Call_Name_kw (ld_glob I hg hm (PySem.W.callWith_KW (h₀ := X.base) I.ok.mod.kin hk hall (thn (ha.run pos pins s σ H _ I h) fun us s1 ⟨vs, H1, I1, r, q⟩ => ?_) hpl he) hdb)⟩
  refine thn (hkw.run pos pins s1 σ H1 _ I1 q) fun ws s2 ⟨zs, H2, I2, rz, l1, l2, q2⟩ => ⟨I2.kIn, ?_⟩
  rw [hks]
  exact R pins s2 σ H2 us ws vs zs Q I2 r rz l1 l2 q2
end
/-! ### repr, of data -/
section
variable {X : Cx}
def rRepr (K : PySem.W.Frag) : List V → Hp → VK → Prop := fun xs H Q => ∃ (x : V) (d : PyData), xs = [x] ∧ Dp K H x d ∧ d.showable = true ∧ d.hasDict = false ∧ d.depth ≤ 60 ∧ d.shown.length ≤ sizeLine ∧ Q (.str d.shown) H
theorem cr_repr (hg : X.A.guards = some []) (hu : X.A.units + 64 < cLine) : CallR X (.builtin "repr") (rRepr X.K) := by
  intro pins s σ H xs us Q I r h
  obtain ⟨x, d, rfl, dp, sh, nd, de, sz, q⟩ := h
  cases r with
  | cons rx rt =>
    cases rt
    cases dp with
    | non => cases (show _ = Value.none from rx); exact PySem.P.repr_of_none ⟨.str _, H, I.tok _, ⟨_, rfl⟩, q⟩
    | bl b => cases (show _ = Value.bool b from rx); exact PySem.P.repr_of_bool ⟨.str _, H, I.tok _, ⟨_, by cases b <;> rfl⟩, q⟩
    | int i => obtain ⟨tk, rfl⟩ := rx; exact PySem.P.repr_of_int (of_decide_eq_true (show decide (i.natAbs.log2 < 1920) = true from sh)) ⟨.str _, H, I.tok _, ⟨_, rfl⟩, q⟩
    | str y => obtain ⟨tk, rfl⟩ := rx; exact PySem.P.repr_of_str ⟨.str _, H, I.tok _, ⟨_, rfl⟩, q⟩ sz
    | @lst a ys ds hs hd =>
      cases (show _ = Value.ref a from rx)
      obtain ⟨as, rd⟩ := Dp.reads I _ (.ref a) _ (.lst hs hd) rfl
      refine PySem.repr_of_reads' (h₀ := s.heap) rd sh (PySem.PyData.noDict_hsm nd) hg (by omega) (fun _ _ z => z) (fun h' u tk kp => ⟨.str _, H, ?_, ⟨_, rfl⟩, q⟩) sz
      exact I.kept kp
    | @tup a ys ds hs hd =>
      cases (show _ = Value.ref a from rx)
      obtain ⟨as, rd⟩ := Dp.reads I _ (.ref a) _ (.tup hs hd) rfl
      refine PySem.repr_of_reads' (h₀ := s.heap) rd sh (PySem.PyData.noDict_hsm nd) hg (by omega) (fun _ _ z => z) (fun h' u tk kp => ⟨.str _, H, ?_, ⟨_, rfl⟩, q⟩) sz
      exact I.kept kp
end
end My
namespace My
open PySem PySem.Spec PyProof.Rows L2
/-- the law's call, its def called where nothing is being shown -/
theorem law_callG {P : Program} {w : World} {K : PySem.W.Frag} {mg mb : Str → Option Value} {CX : CXT} {k : Nat} {fa a : Addr} {fd : FuncData} {x : Str} {sp : Sp} {s₁ : Shared} {vs : List Value} {ns : List Int}
    (kin : K.In s₁.heap) (hns : s₁.heap.Ns mainGlobals mg) (hb : s₁.heap.Ns builtinsNs mb) (hbb : ∀ x : Str, x ≠ "__name__" → mb x = bootBuiltins x) (nl : s₁.heap.NoLimit) (ng : s₁.gens = #[])
    (at_ : s₁.heap.get? a = some { cls := .type "list", data := .seq vs.toArray }) (hi : IntsAre vs ns) (le : ns.length ≤ sizeLine) (hr : Room k callerA)
    (F : ∀ base : Heap, K.In base → base.Ns mainGlobals mg → FnG P w K mg base CX k fa fd [x] sp) (bd : ∀ (s : Shared) (u : Value), BindsTo s fd ⟨[u], []⟩ [(x, u)])
    (hsp : ∀ H : Hp, Only H → SqL K H a (ns.map V.int) → sp [.ref a] H (fun v _ => v = .bl true) fun _ _ _ => False)
    (hCX : ∀ H e s', CX [] H s₁ (fun _ _ _ => False) e s' → False) :
    codeAny (model P w) callerA (.call (.ref fa) ⟨[.ref a], []⟩) (fun r s' => r = .ok (.ret (.bool true)) ∧ OldK s₁.heap s'.heap ∧ s'.os = s₁.os ∧ AllBare s'.gens) s₁ := by
  have go : ∀ H : Hp, Only H → SqL K H a (ns.map V.int) → HOk P w H s₁.heap → (∀ b, H b ≠ none → b = a) → (H a ≠ none → K.lookup a = none) →
      codeAny (model P w) callerA (.call (.ref fa) ⟨[.ref a], []⟩) (fun r s' => r = .ok (.ret (.bool true)) ∧ OldK s₁.heap s'.heap ∧ s'.os = s₁.os ∧ AllBare s'.gens) s₁ := by
    intro H only sq hok one off
    have is_a : ∀ {b : Addr} {u : HO}, H b = some u → b = a := fun {b u} q => one b (by rw [q]; exact fun z => nomatch z)
    have back : ∀ {b : Addr} {o : Obj}, s₁.heap.get? b = some o → H b = none → (hidT s₁.heap H).get? b = some o := fun e n => hidT_get e n
    have nd : ∀ {b : Addr} {o : Obj} {es : Array DictEntry} {ep : Nat}, s₁.heap.get? b = some o → o.data = .dict es ep → H b = none := fun {b o es ep} e d => by
      cases q : H b with
      | none => rfl
      | some u =>
        cases is_a q
        rw [at_] at e
        cases e
        cases (show Data.seq vs.toArray _ = Data.dict es ep from d)
    have nsb : ∀ {b : Addr} {m : Str → Option Value}, s₁.heap.Ns b m → (hidT s₁.heap H).Ns b m := fun {b m} ⟨o, es, ep, e, d, r⟩ => ⟨o, es, ep, back e (nd e d), d, r⟩
    have kinb : K.In (hidT s₁.heap H) := fun b o e => back (kin b o e) (by
      cases q : H b with
      | none => rfl
      | some u =>
        cases is_a q
        rw [off (by rw [q]; exact fun z => nomatch z)] at e
        cases e)
    have md : Mod K mg (hidT s₁.heap H) := ⟨kinb, nsb hns, ⟨mb, nsb hb, hbb⟩, let ⟨mc, h1, h2⟩ := nl; ⟨mc, nsb h1, h2⟩⟩
    have e0 : Env0 P w K mg (hidT s₁.heap H) callerA [] s₁ H := ⟨rfl, md, fun b o e => of_hidT e, Nat.le_of_eq (hidT_size _ _), trivial, fun b z => absurd (show b ∈ ([] : List Addr) from z) List.not_mem_nil, hok, .of_eq ng⟩
    refine codeAny_mono ((F _ kinb (nsb hns)).run callerA [] s₁ H ⟨[.ref a], []⟩ [.ref a] [.ref a] _ _ rfl hr e0 (bd s₁ (.ref a)) (.cons rfl .nil) (hsp H only sq)) fun r s' h => ?_
    cases r with
    | error e => exact (hCX H e s' h).elim
    | ok fl => cases fl with
      | next => exact h.elim
      | brk => exact h.elim
      | cont => exact h.elim
      | ret u =>
        obtain ⟨v, H', os, bare, un, hok', r', q⟩ := h
        cases (show v = .bl true from q)
        cases (show u = Value.bool true from r')
        refine ⟨rfl, OldK.of_keep fun b o e => ?_, os, bare⟩
        cases q : H b with
        | none => exact un.keep b o e q (fun z => absurd (show b ∈ ([] : List Addr) from z) List.not_mem_nil) (by simp)
        | some u =>
          rcases only b with z | ⟨ob, xs, z⟩
          · rw [q] at z
            cases z
          · obtain ⟨e1, _⟩ := hok b _ z
            obtain ⟨e2, _⟩ := hok' b _ (un.frzs b ob _ z)
            rw [e] at e1
            cases e1
            exact e2
  have rv := vals_ints hi
  cases hk : K.lookup a with
  | some o =>
    have e := kin a o hk
    rw [at_] at e
    cases e
    exact go (fun _ => none) (fun _ => .inl rfl) (.inr ⟨_, vs.toArray, _, hk, rfl, rfl, rfl, by rw [List.size_toArray, hi.length]; exact le, by simpa using rv⟩) (fun b u z => nomatch (show (none : Option HO) = some u from z)) (fun b z => absurd rfl z) fun z => absurd rfl z
  | none =>
    let fz : HO := .frz { cls := .type "list", data := .seq vs.toArray } (.lst (ns.map V.int))
    have at0 : (fun b => if b = a then some fz else none : Hp) a = some fz := if_pos rfl
    refine go (fun b => if b = a then some fz else none) (fun b => ?_) (.inl (.inr ⟨_, at0⟩)) (fun b u z => ?_) (fun b z => ?_) fun _ => hk
    · by_cases q : b = a
      · exact .inr ⟨_, _, if_pos q⟩
      · exact .inl (if_neg q)
    · by_cases q : b = a
      · subst q
        cases at0.symm.trans z
        exact ⟨at_, by rw [List.length_map]; exact le, vs, _, rv, at_⟩
      · cases (if_neg q).symm.trans z
    · by_cases q : b = a
      · exact q
      · exact absurd (if_neg q) z
theorem walk_G {l : PySem.W.OpenLaw} {n k : Nat} {q : Program} {loose : List Str} {XP : (Str → Option Value) → Heap → Prop} {YP : World → Heap → Prop} {d : DefRec} {CX : CXT} {x : Str}
    (hn : l.most = some n) (hn2 : n ≤ sizeLine) (hdf : d.params.defaults = []) (hr : Room k callerA)
    (F : ∀ (w : World) (mg : Str → Option Value) (fa : Addr) (h : Heap), YP w h → h.Ns mainGlobals mg → mg d.name = some (.ref fa) →
      ∃ (K : PySem.W.Frag) (fd : FuncData) (sp : Sp), K.In h ∧ (∀ (s : Shared) (u : Value), BindsTo s fd ⟨[u], []⟩ [(x, u)]) ∧
        (∀ (H : Hp) (a : Addr) (ns : List Int), ns.length ≤ n → Only H → SqL K H a (ns.map V.int) → sp [.ref a] H (fun v _ => v = .bl true) fun _ _ _ => False) ∧
        ∀ base : Heap, K.In base → base.Ns mainGlobals mg → FnG l.prog w K mg base CX k fa fd [x] sp)
    (hCX : ∀ (H : Hp) (s : Shared) (e : Value) (s' : Shared), CX [] H s (fun _ _ _ => False) e s' → False) :
    PySem.W.WalkO q loose XP YP l.row.toRowW d [] (fun f vs => PySem.call f vs) := by
  refine Att.attach_call hn hdf fun w s₀ s₁ mg mb fa o pm cd doc a vs ns G Y ho hd hcd hmg hobj hints hlen hg => ?_
  obtain ⟨K, fd, sp, kin, bd, hsp, hF⟩ := F w mg fa _ Y G.T.g hmg
  exact law_callG kin G.T.g G.T.b G.T.builtins G.T.nolimit hg hobj hints (Nat.le_trans hlen hn2) hr hF bd (fun H hO hS => hsp H a ns hlen hO hS) fun H e s' => hCX H s₁ e s'
end My
namespace My
open PySem PySem.Spec PyProof.Rows L2
/-! ### what the top has left, by names -/
/-- the default of the keyword x of the def at f, if it is an object -/
def kwdAt (f : Str × Option Str) (x : Str) (K : PySem.W.Frag) : Addr := match K.lookup (He.fAd K f) with
  | some o => (match o.data with
    | .func fd => (match fd.kwdefaults with
      | .ref D => (match PySem.W.nsIn K D x with
        | some (some (.ref a)) => a
        | _ => 0)
      | _ => 0)
    | _ => 0)
  | none => 0
/-- at a: a tuple of these -/
def tupA (K : PySem.W.Frag) (a : Addr) (vs : List He.Dv) : Bool := match K.lookup a with
  | some o => (match o.data with
    | .seq its _ => decide (o.cls = .type "tuple") && (decide (its.size ≤ sizeLine) && He.relAll (vs.map (He.Dv.v K)) its.toList)
    | _ => false)
  | none => false
theorem tupA_ok {K : PySem.W.Frag} {a : Addr} {vs : List He.Dv} (h : tupA K a vs = true) (H : Hp) : SqT K H a (vs.map (He.Dv.v K)) := by
  unfold tupA at h
  cases q : K.lookup a with
  | none => rw [q] at h; cases h
  | some o =>
    rw [q] at h
    obtain ⟨oc, od, dt, osl⟩ := o
    cases dt with
    | seq its n =>
      obtain ⟨h1, h2⟩ := He.ba (show (decide (oc = .type "tuple") && (decide (its.size ≤ sizeLine) && He.relAll (vs.map (He.Dv.v K)) its.toList)) = true from h)
      obtain ⟨h3, h4⟩ := He.ba h2
      exact .inr ⟨_, its, n, q, of_decide_eq_true h1, rfl, of_decide_eq_true h3, He.relAll_ok h4⟩
    | _ => cases h
/-- the facts fa, the defs fn, and whatever ex says -/
abbrev Ob : Type := He.AlD × Bool
def obM (n : Nat) (fa : List He.Fa) (fn : List He.DefD) (ex : PySem.W.Frag → Bool) (g : Addr → Option Obj) : Ob := (He.obsDG n fa fn g, ex (He.frG g (He.asD g n)))
structure Says (fa : List He.Fa) (fn : List He.DefD) (ex : PySem.W.Frag → Bool) (K : PySem.W.Frag) : Prop where
  d : He.SaysD fa fn K
  ex : ex K = true
def hookM (n : Nat) (fa : List He.Fa) (fn : List He.DefD) (ex : PySem.W.Frag → Bool) : PySem.W.Hook where
  α := Ob
  obs := fun s => obM n fa fn ex s.heap.get?
  val := fun _ => (He.valD fn, true)
  says := fun _ h => ∃ K : PySem.W.Frag, K.In h ∧ Says fa fn ex K
  of := fun _ _ e => ⟨_, He.frG_in, ⟨congrArg (fun z : Ob => z.1) e, congrArg (fun z : Ob => z.2) e⟩⟩
  keeps := fun _ _ _ ⟨K, hK, c⟩ k => ⟨K, PySem.W.Frag.In.keeps hK k, c⟩
theorem obM_eq {n : Nat} {fa : List He.Fa} {fn : List He.DefD} {ex : PySem.W.Frag → Bool} {g : Addr → Option Obj} {s : Shared} (h : ∀ a, g a = s.heap.get? a) : obM n fa fn ex g = (hookM n fa fn ex).obs s := by
  have e : g = s.heap.get? := funext h
  rw [e]
  rfl
/-- what a proof of a def leans on -/
structure Ctx (fa : List He.Fa) (fn : List He.DefD) (ex : PySem.W.Frag → Bool) (K : PySem.W.Frag) (mg : Str → Option Value) : Prop where
  says : Says fa fn ex K
  ns : ∃ h : Heap, K.In h ∧ h.Ns mainGlobals mg
section
variable {fa : List He.Fa} {fn : List He.DefD} {ex : PySem.W.Frag → Bool} {K : PySem.W.Frag} {mg : Str → Option Value}
theorem Ctx.glo (Z : Ctx fa fn ex K mg) (x : Str) (h : fa.any (fun f => match f with | .glo y => decide (y = x) | _ => false) = true := by decide +kernel) : mg x = some (.ref (He.ga K x)) := by
  obtain ⟨hp, X, G⟩ := Z.ns
  obtain ⟨f, hf, e⟩ := List.any_eq_true.mp h
  cases f with
  | glo y =>
    cases of_decide_eq_true e
    obtain ⟨i, hi, q⟩ := List.mem_iff_getElem.mp hf
    exact He.glo_ok X G (Z.says.d.fact i (by rw [List.getElem?_eq_getElem hi, q]))
  | _ => cases e
theorem Ctx.free (Z : Ctx fa fn ex K mg) (x : Str) (h : fa.any (fun f => match f with | .free y => decide (y = x) | _ => false) = true := by decide +kernel) : mg x = none := by
  obtain ⟨hp, X, G⟩ := Z.ns
  obtain ⟨f, hf, e⟩ := List.any_eq_true.mp h
  cases f with
  | free y =>
    cases of_decide_eq_true e
    obtain ⟨i, hi, q⟩ := List.mem_iff_getElem.mp hf
    exact He.free_ok X G (Z.says.d.fact i (by rw [List.getElem?_eq_getElem hi, q]))
  | _ => cases e
theorem Ctx.int (Z : Ctx fa fn ex K mg) (x : Str) (n : Int) (h : fa.any (fun f => match f with | .int y m => decide (y = x) && decide (m = n) | _ => false) = true := by decide +kernel) : ∃ t, mg x = some (.int n t) := by
  obtain ⟨hp, X, G⟩ := Z.ns
  obtain ⟨f, hf, e⟩ := List.any_eq_true.mp h
  cases f with
  | int y m =>
    obtain ⟨e1, e2⟩ := He.ba e
    cases of_decide_eq_true e1
    cases of_decide_eq_true e2
    obtain ⟨i, hi, q⟩ := List.mem_iff_getElem.mp hf
    exact He.int_ok X G (Z.says.d.fact i (by rw [List.getElem?_eq_getElem hi, q]))
  | _ => cases e
theorem Ctx.str (Z : Ctx fa fn ex K mg) (x z : Str) (h : fa.any (fun f => match f with | .str y m => decide (y = x) && decide (m = z) | _ => false) = true := by decide +kernel) : ∃ t, mg x = some (.str z t) := by
  obtain ⟨hp, X, G⟩ := Z.ns
  obtain ⟨f, hf, e⟩ := List.any_eq_true.mp h
  cases f with
  | str y m =>
    obtain ⟨e1, e2⟩ := He.ba e
    cases of_decide_eq_true e1
    cases of_decide_eq_true e2
    obtain ⟨i, hi, q⟩ := List.mem_iff_getElem.mp hf
    exact He.str_ok X G (Z.says.d.fact i (by rw [List.getElem?_eq_getElem hi, q]))
  | _ => cases e
theorem Ctx.cls (Z : Ctx fa fn ex K mg) (x : Str) (h : fa.any (fun f => match f with | .cls y => decide (y = x) | _ => false) = true := by decide +kernel) : Cls K (He.ga K x) := by
  obtain ⟨f, hf, e⟩ := List.any_eq_true.mp h
  cases f with
  | cls y =>
    cases of_decide_eq_true e
    obtain ⟨i, hi, q⟩ := List.mem_iff_getElem.mp hf
    exact He.cls_ok (Z.says.d.fact i (by rw [List.getElem?_eq_getElem hi, q]))
  | _ => cases e
theorem Ctx.noat (Z : Ctx fa fn ex K mg) (x a : Str) (h : fa.any (fun f => match f with | .noat y b => decide (y = x) && decide (b = a) | _ => false) = true := by decide +kernel) : NoAttr K (He.ga K x) a := by
  obtain ⟨f, hf, e⟩ := List.any_eq_true.mp h
  cases f with
  | noat y b =>
    obtain ⟨e1, e2⟩ := He.ba e
    cases of_decide_eq_true e1
    cases of_decide_eq_true e2
    obtain ⟨i, hi, q⟩ := List.mem_iff_getElem.mp hf
    exact He.noat_ok (Z.says.d.fact i (by rw [List.getElem?_eq_getElem hi, q]))
  | _ => cases e
theorem Ctx.meth (Z : Ctx fa fn ex K mg) (x a : Str) (h : fa.any (fun f => match f with | .meth y b => decide (y = x) && decide (b = a) | _ => false) = true := by decide +kernel) : Meth K (He.ga K x) a (He.ma K (He.ga K x) a) := by
  obtain ⟨f, hf, e⟩ := List.any_eq_true.mp h
  cases f with
  | meth y b =>
    obtain ⟨e1, e2⟩ := He.ba e
    cases of_decide_eq_true e1
    cases of_decide_eq_true e2
    obtain ⟨i, hi, q⟩ := List.mem_iff_getElem.mp hf
    exact He.meth_ok (Z.says.d.fact i (by rw [List.getElem?_eq_getElem hi, q]))
  | _ => cases e
theorem Ctx.mkr (Z : Ctx fa fn ex K mg) (x : Str) (h : fa.any (fun f => match f with | .mkr y => decide (y = x) | _ => false) = true := by decide +kernel) : Mk K (He.ga K x) (He.ma K (He.ga K x) "__init__") := by
  obtain ⟨f, hf, e⟩ := List.any_eq_true.mp h
  cases f with
  | mkr y =>
    cases of_decide_eq_true e
    obtain ⟨i, hi, q⟩ := List.mem_iff_getElem.mp hf
    exact He.mkr_ok (Z.says.d.fact i (by rw [List.getElem?_eq_getElem hi, q]))
  | _ => cases e
end
end My
namespace My
open PySem PySem.Spec PyProof.Rows L2
/-- the set that set() lays down -/
abbrev eset (w : World) : Obj := { cls := .type "set", dict := none, data := .set #[] 0 (.fresh 0 0 (!w.params.followText "set-order")) }
abbrev hset (w : World) (h : Heap) : Heap := h.push (eset w)
section
variable {P : Program} {w : World} {A : Around} {E : Value → Shared → Prop} {s : Shared}
set_option maxHeartbeats 4000000 in
/-- set(xs) of a list of ints -/
theorem setI_of_list {l : Addr} {its : Array Value} (ns : List Int) {Q : Value → Shared → Prop} (nh : A.handled = none) (li : s.heap.IsList l its) (ii : IntsAre its.toList ns) (few : ns.length + 1 < scanBound)
    (k : ∀ (h' : Heap) (tk c : Nat), SetR w h' s.heap.objs.size (fun j => decide (j ∈ ns)) c → c ≤ ns.length → (∀ b o, s.heap.get? b = some o → h'.get? b = some o) → Q (.ref s.heap.objs.size) { s with heap := h', toks := tk }) :
    wpAny (model P w) A (call (.type "set") [.ref l]) Q E s := by
  have sz : its.size = ns.length := by have q := IntsAre.length ii; rwa [Array.length_toList] at q
  obtain ⟨_, _, m1⟩ := F.called_set.mro
  have m2 := F.called_set.made; have m3 := F.called_set.sub
  refine wpAny_call (codeAny_of_tree (show wpAny _ _ (callAny (.type "set") _) _ _ _ from wpAny_pure ⟨Code.quiet_builtin _ (by decide +kernel), codeAny_builtin F.entry_type_call ?_⟩))
  rw [Around.under_plain (weight_type_call_type "set" [.ref l] []) rfl]
  have m4 := F.called_set.notType; have m5 := F.called_set.canCreate; have m6 := F.typeCall_set_1 (.ref l)
  repeat (any_goals (first | assumption | wp_step))
  refine codeAny_mono (code_set_led1 (.ref l) (E := E) (Q₁ := fun obj s₁ => obj = .ref s.heap.objs.size ∧ s₁ = { s with heap := hset w s.heap }) ⟨rfl, rfl⟩) fun r s₁ hr => ?_
  cases r with
  | error e => exact hr
  | ok fl =>
    cases fl with
    | ret obj =>
      obtain ⟨rfl, rfl⟩ := hr
      have g0 : (hset w s.heap).get? s.heap.objs.size = some (eset w) := Heap.get?_push_size _ rfl
      have t0 : Shared.TypeIs { s with heap := hset w s.heap } (.ref s.heap.objs.size) "set" := ⟨_, g0, rfl⟩
      have i1 := F.called_set.init.lookup; have i2 := F.called_set.init.bind (.ref s.heap.objs.size)
      repeat (any_goals (first | assumption | wp_step))
      refine codeAny_mono (codeAny_call_builtin (R := wants (fun r s₂ => r = .none ∧ ∃ h' tk c, s₂ = { s with heap := h', toks := tk } ∧ SetR w h' s.heap.objs.size (fun j => decide (j ∈ ns)) c ∧ c ≤ ns.length ∧
        (∀ b o, s.heap.get? b = some o → h'.get? b = some o)) E) F.called_set.init.plain F.entry_set_init (check_set_init_1 t0 ?_)) fun r₂ s₂ hr₂ => ?_
      · obtain ⟨⟨oc, od, odt, osl⟩, lo, lc, ln, ld⟩ := li
        simp only at lc ld
        subst lc; subst ld
        have lo1 : (hset w s.heap).get? l = some { cls := .type "list", dict := od, data := .seq its ln, slots := osl } := Heap.get?_push_of_some _ lo
        have f1 := F.sub_list_set; have f2 := F.sub_list_frozenset
        have f3 : (Value.type "list" == Value.type "dict") = false := by decide
        have li1 : (hset w s.heap).IsList l its := ⟨_, lo1, rfl, ln, rfl⟩
        have ls : l < s.heap.objs.size := Heap.lt_size lo
        have sz1 : (hset w s.heap).objs.size = s.heap.objs.size + 1 := Heap.size_push ..
        unfold Builtin.«set.__init__» noKeywords Builtin.Frozenset.updateFrom
        generalize eI : pyIter = PI
        wp_walk
        subst eI
        refine wpAny_pyIter_list li1 (wpAny_bind (wpAny_runValue ?_))
        have nh3 : A.in1.in1.in1.handled = none := by simp [nh]
        have n1 : l ≠ (hset w s.heap).objs.size := by rw [sz1]; exact Nat.ne_of_lt (Nat.lt_succ_of_lt ls)
        have n2 : s.heap.objs.size ∉ [(hset w s.heap).objs.size, l] := by
          rw [sz1]; intro z; rcases List.mem_cons.mp z with z | z
          · exact absurd z (Nat.ne_of_lt (Nat.lt_succ_self _))
          · exact absurd (List.mem_singleton.mp z) (Nat.ne_of_gt ls)
        have va : ∀ (i : Nat) (v : Value), its[i]? = some v → ∃ k t, ns[i]? = some k ∧ v = .int k t := fun i v hv => by
          have hi : i < ns.length := sz ▸ (Array.getElem?_eq_some_iff.mp hv).1
          obtain ⟨t, e⟩ := IntsAre.int_at ii i v (by rw [Array.getElem?_toList]; exact hv)
          exact ⟨ns[i], t, List.getElem?_eq_getElem hi, by rw [e, List.getD_eq_getElem?_getD, List.getElem?_eq_getElem hi]; rfl⟩
        refine set_update_ints ((Walks.list nh3 _ l n1 its).toS) s.heap.objs.size n2 ns sz few va (its.size - 0) 0 _ (by omega) (Nat.zero_le _) ⟨⟨_, Heap.get?_push_size _ rfl, rfl, rfl⟩, (li1.push _)⟩
          ⟨0, Nat.le_refl 0, setR_new_at (Heap.get?_push_of_some _ g0)⟩ ?_
        intro s' c' mv lc' sr
        obtain ⟨h', g2, d', tk', os'⟩ := s'
        obtain rfl : g2 = s.gens := mv.gens
        obtain rfl : d' = s.drawn := mv.drawn
        obtain rfl : os' = s.os := mv.os
        show wpAny _ _ _ _ _ _
        refine wpAny_pure (show wpAny _ _ (ret Value.none) _ _ _ from ?_)
        rw [sz] at lc'
        refine wpAny_pure ⟨rfl, h', tk', c', rfl, sr, lc', fun b o e => mv.heap b o (fun z => ?_) (Heap.get?_push_of_some _ (Heap.get?_push_of_some _ e))⟩
        have b0 : b < s.heap.objs.size := Heap.lt_size e
        rcases List.mem_cons.mp z with z | z
        · exact absurd z (Nat.ne_of_lt b0)
        · have z2 := List.mem_singleton.mp z
          rw [sz1] at z2
          exact absurd z2 (Nat.ne_of_lt (Nat.lt_succ_of_lt b0))
      · cases r₂ with
        | error e => exact hr₂
        | ok fl₂ =>
          cases fl₂ with
          | ret r =>
            obtain ⟨rfl, h', tk, c', rfl, a1, a2, a3⟩ := hr₂
            repeat (any_goals (first | assumption | wp_step))
            exact k _ _ _ a1 a2 a3
          | _ => exact hr₂.elim
    | _ => exact hr.elim
end
section
variable {X : Cx}
/-- set(xs), xs a list of ints: as a rule -/
def rSetI (K : PySem.W.Frag) (w : World) : List V → Hp → VK → Prop := fun xs H Q => ∃ (l : Addr) (ns : List Int), xs = [V.ref l] ∧ SqL K H l (ns.map V.int) ∧ ns.length < 60 ∧
  ∀ p c, H p = none → c ≤ ns.length → Q (.ref p) (upd H p (SetO w p (fun j => decide (j ∈ ns)) c))
theorem cr_setI (hc : X.calm = true) : CallR X (.type "set") (rSetI X.K X.w) := by
  intro pins s σ H xs us Q I r h
  obtain ⟨l, ns, rfl, hl, few, q⟩ := h
  rw [Vals.ref1 r]
  obtain ⟨its, rv, pl, hz⟩ := I.list hl
  refine setI_of_list ns (I.ok.hd hc) pl.isList (by simpa using rv.ints) (by unfold scanBound; omega) fun h' tk c R lc kp => ?_
  exact ⟨.ref s.heap.objs.size, _, I.laid (t' := tk) kp (Nat.le_refl _) (setO_new R), rfl, q _ c (I.hok.fresh (Nat.le_refl _)) lc⟩
end
end My
set_option maxHeartbeats 4000000
namespace My
open PySem PySem.Spec PyProof.Rows L2
section
variable {prog : Program} {w : World} {A : Around} {E : Value → Shared → Prop} {s : Shared}
/-- the heap when a tuple has been collected -/
abbrev coll (h : Heap) (vs : List Value) : Heap := (h.push (seqObj "list" #[] 0)).update h.objs.size (Obj.mapSeq (· ++ vs.toArray))
theorem collect_tup {l : Addr} {vs : List Value} {Q : List Value → Shared → Prop} (hl : s.heap.IsTuple l vs.toArray) (hz : vs.length ≤ sizeLine) (k : Q vs { s with heap := coll s.heap vs }) : wpAny (model prog w) A (collect (.ref l)) Q E s := by
  obtain ⟨o, lo, lc, n, ld⟩ := id hl
  have ne : (s.heap.push (seqObj "list" #[] 0)).get? s.heap.objs.size = some (seqObj "list" #[] 0) := Heap.get?_push_size _ rfl
  have lo1 : (s.heap.push (seqObj "list" #[] 0)).get? l = some o := Heap.get?_push_of_some _ lo
  unfold collect
  refine wpAny_bind (wpAny_runValue (codeAny_builtin entry_proto_collect' (show wpAny _ _ (do again (.builtin "list.__iadd__" ⟨[← newList [], .ref l], []⟩)) _ _ s from ?_)))
  refine wpAny_bind (wpAny_newList (wpAny_pure ⟨Code.quiet_builtin _ (by decide +kernel), codeAny_builtin entry_list_iadd' (show wpAny _ _ (Builtin.List.listExtendWith (.ref s.heap.objs.size) (.ref l) (.ref s.heap.objs.size)) _ _ { s with heap := s.heap.push (seqObj "list" #[] 0) } from ?_)⟩))
  unfold Builtin.List.listExtendWith
  refine wpAny_bind (wpAny_typeOf (T := "tuple") ⟨o, lo1, lc⟩ ?_)
  rw [if_pos (by simp)]
  refine wpAny_bind (listItems_at lo1 ld (wpAny_bind (listItems_at (xs := #[]) (n := 0) ne rfl ?_)))
  rw [if_neg (by simp)]
  refine wpAny_bind (listUpdate_at (xs := #[]) (n := 0) ne rfl (wpAny_pure ?_) (Nat.zero_le _) (by simp only [Array.size_append, List.size_toArray, List.length_nil]; omega))
  refine wpAny_bind (wpAny_load (get?_update_seq ne _) ?_)
  show wpAny _ _ (pure ((#[] : Array Value) ++ vs.toArray).toList) Q E _
  rw [show ((#[] : Array Value) ++ vs.toArray).toList = vs by simp]
  exact wpAny_pure k
theorem sorted_tup {l : Addr} {vs : List Value} {k : Value → Int × Int} {Q : Value → Shared → Prop} (hl : s.heap.IsTuple l vs.toArray) (hz : vs.length ≤ sizeLine) (hp : ∀ v ∈ vs, Srt.IsPair s.heap v (k v).1 (k v).2)
    (h : ∀ (h' : Heap) (d : Addr) (out : List Value), SrtO.Srtd (fun v u => SrtO.lexB (k v) (k u)) out → SrtO.Stb (fun v u => SrtO.lexB (k v) (k u)) out vs → (∀ b o, s.heap.get? b = some o → h'.get? b = some o) → s.heap.objs.size ≤ d → (∃ n, h'.get? d = some (seqObj "list" out.toArray n)) → Q (.ref d) { s with heap := h' }) :
    wpAny (model prog w) A (call (.builtin "sorted") [.ref l]) Q E s := by
  refine Calls.call_function_entry kind_sorted plain_sorted entry_sorted (args_sorted1 _) ?_
  unfold Builtin.«sorted»
  refine wpAny_bind (m := checkCount "sorted" 1 1 _) (wpAny_pure (wpAny_bind (collect_tup hl hz (wpAny_bind (wpAny_newList ?_ hz)))))
  have sz : (coll s.heap vs).objs.size = s.heap.objs.size + 1 := by rw [Heap.size_update, size_push']
  have at1 : ((coll s.heap vs).push (seqObj "list" vs.toArray 0)).get? (s.heap.objs.size + 1) = some (seqObj "list" vs.toArray 0) := by rw [← sz]; exact Heap.get?_push_size _ rfl
  have kp : ∀ b o, s.heap.get? b = some o → b ≠ s.heap.objs.size + 1 ∧ ((coll s.heap vs).push (seqObj "list" vs.toArray 0)).get? b = some o := fun b o q => by
    have lt : b < s.heap.objs.size := Heap.lt_size q
    refine ⟨Nat.ne_of_lt (Nat.lt_succ_of_lt lt), Heap.get?_push_of_some _ ?_⟩
    rw [Heap.get?_update_ne _ _ _ _ (Nat.ne_of_lt lt)]
    exact Heap.get?_push_of_some _ q
  show wpAny _ _ _ _ _ { s with heap := (coll s.heap vs).push (seqObj "list" vs.toArray 0) }
  rw [sz]
  refine wpAny_bind (wpAny_holding (wpAny_call_entry slot_list_sort ⟨_, at1, rfl⟩ entry_list_sort (SrtO.list_sort_ord (SrtO.swo_lex k) at1 hz (fun h2 => ?_) fun out hs hb => ⟨_, rfl, wpAny_pure ⟨_, rfl, ?_⟩⟩) (args_list_sort _)))
  · refine SrtO.pairs_sortableO (by omega) (fun v hm => (hp v hm).keeps fun b o e _ => (kp b o e).2) fun o e => ?_
    cases (at1.symm.trans e)
    exact fun c => absurd (Value.type.inj c) (by decide)
  · exact h _ _ out hs hb (fun b o e => sortedAll_old e) (Nat.le_succ _) (sortedAll_at s.heap vs out.toArray)
end
/-- sorted(t), t a tuple of pairs of ints -/
def rSortedPT (K : PySem.W.Frag) : List V → Hp → VK → Prop := fun vs H Q => ∃ (a : Addr) (xs : List V) (k : V → Int × Int), vs = [V.ref a] ∧ SqT K H a xs ∧ (∀ x ∈ xs, ∃ t, x = V.ref t ∧ H t = some (.tup [.int (k x).1, .int (k x).2])) ∧
  ∀ ys p, SrtO.Srtd (ltP k) ys → SrtO.Stb (ltP k) ys xs → H p = none → Q (.ref p) (upd H p (.lst ys))
section
variable {X : Cx}
theorem cr_sortedPT : CallR X (.builtin "sorted") (rSortedPT X.K) := by
  intro pins s σ H vs us Q I r h
  obtain ⟨a, xs, k, rfl, hs, hx, q⟩ := h
  obtain ⟨its, rv, hl, hz⟩ := I.tuple hs
  obtain ⟨u, rfl, ru⟩ := vals1 r
  obtain rfl : u = Value.ref a := ru
  obtain ⟨e1, e2⟩ := refs_back rv fun x m => let ⟨t, e, _⟩ := hx x m; ⟨t, e⟩
  refine sorted_tup (k := fun u => k (backV u)) hl (by rw [← rv.length]; exact hz) (fun v hv => ?_) fun h' d out h1 h2 kp hd ⟨n, hn⟩ => ?_
  · obtain ⟨t, rfl⟩ := e2 v hv
    obtain ⟨t', e, ht⟩ := hx (V.ref t) (by rw [e1]; exact List.mem_map.mpr ⟨_, hv, rfl⟩)
    cases e
    obtain ⟨_, its2, r2, o, ho, hc, n, hd⟩ := I.hok _ _ ht
    obtain ⟨u1, u2, rfl, ⟨t1, rfl⟩, ⟨t2, rfl⟩⟩ := vals2 r2
    exact ⟨t, o, t1, t2, n, rfl, ho, hc, hd⟩
  · have hb : SrtO.Stb (ltP k) (out.map backV) xs := by rw [e1]; exact SrtO.Stb.map (ltP_swo k) backV h2
    refine ⟨.ref d, upd H d (.lst (out.map backV)), I.laid (t' := s.toks) kp hd ⟨by rw [hb.len]; exact hz, out, n, vals_back fun u hu => e2 u (h2.perm.mem_iff.mp hu), hn⟩, rfl, q _ d (SrtO.srtd_map h1) hb (I.hok.fresh hd)⟩
end
end My
set_option maxHeartbeats 4000000
namespace My
open PySem PySem.Spec PyProof.Rows L2
abbrev enumO (n : Nat) : Obj := { cls := .type "enumerate", data := .fields #[.none, .bool false, .ref n, rawInt 0, .none, .none] }
theorem enum_new {v : Value} {o : Obj} {P0 : Heap → Prop} (B : Begins v o P0) :
    Meets (Builtin.«enumerate.__new__» ⟨[.type "enumerate", v], []⟩) (fun _ R s => P0 s.heap ∧ R (.ok (.ret (.ref (s.heap.push o).objs.size))) { s with heap := (s.heap.push o).push (enumO s.heap.objs.size) }) :=
  .of_wp fun prog w A R s h => by
    obtain ⟨hp, g, d, tk, os⟩ := s; obtain ⟨h1, h⟩ := h
    have f1 := sub_enumerate
    have q1 : ∀ {A' : Around} {E : Value → Shared → Prop} {Q : Value → Shared → Prop}, Q (.ref hp.objs.size) ⟨hp.push o, g, d, tk, os⟩ → wpAny (model prog w) A' (pyIter v) Q E ⟨hp, g, d, tk, os⟩ :=
      fun q => B.iter prog w _ _ ⟨hp, g, d, tk, os⟩ _ h1 q
    wp_walk using q1
    refine wpAny_stack_any fun st => wpAny_pure ?_
    split
    · rename_i c _ _ _ _ _
      cases (c == Value.type "enumerate") <;> (wp_walk using q1; exact ⟨_, rfl, h⟩)
    · wp_walk using q1
      exact ⟨_, rfl, h⟩
section
variable {prog : Program} {w : World} {A : Around} {E : Value → Shared → Prop} {s : Shared}
theorem enum_make {v : Value} {o : Obj} {P0 : Heap → Prop} {Q : Value → Shared → Prop} (B : Begins v o P0) (h1 : P0 s.heap)
    (h : ∀ h', IsEnum h' (s.heap.objs.size + 1) s.heap.objs.size 0 .none → h'.get? s.heap.objs.size = some o → (∀ b o, s.heap.get? b = some o → h'.get? b = some o) → Q (.ref (s.heap.objs.size + 1)) { s with heap := h' }) :
    wpAny (model prog w) A (call (.type "enumerate") [v]) Q E s := by
  refine callType_new F.called_enumerate (by decide) (F.typeCall_enumerate_1 _) (F.newCall_enumerate_1 _) (fun obj => F.args_object_init_2 obj _) F.entry_enumerate_new (enum_new B) ⟨h1, ?_⟩
  have hz : (s.heap.push o).objs.size = s.heap.objs.size + 1 := Heap.size_push ..
  have he := Heap.get?_push_size (s.heap.push o) (o := enumO s.heap.objs.size) rfl
  rw [hz] at he
  show _ ∧ _
  rw [hz]
  exact ⟨⟨_, he, rfl⟩, h _ he (Heap.get?_push_of_some _ (Heap.get?_push_size _ B.free)) fun b o x => Heap.get?_push_of_some _ (Heap.get?_push_of_some _ x)⟩
end
/-- enumerate(t), t a tuple: each item in a new pair -/
def Itet (K : PySem.W.Frag) (a : Addr) : It :=
  ⟨fun i H => ∃ (xs : List V) (x : V), SqT K H a xs ∧ xs[i]? = some x, fun i H v H' => ∃ T x, v = .ref T ∧ H T = none ∧ H' = upd H T (.tup [.int (i : Nat), x]) ∧ ∀ xs, SqT K H a xs → xs[i]? = some x, fun i H => ∃ xs : List V, SqT K H a xs ∧ xs.length ≤ i⟩
section
variable {prog : Program} {w : World} {A : Around} {E : Value → Shared → Prop} {s : Shared}
theorem enum_end_tup {e it t : Addr} {c : Int} {i : Nat} {its : Array Value} {old : Value} {Q : Option Value → Shared → Prop} (nh : A.handled = none) (he : IsEnum s.heap e it c old) (hit : s.heap.IsTupleIter it t i) (ht : s.heap.IsTuple t its) (hx : its[i]? = none)
    (hQ : ∀ h', Heap.ExtBut it s.heap h' → Q none { s with heap := h' }) : wpAny (model prog w) A (pyNext (.ref e)) Q E s := by
  have tE : s.TypeIs (.ref e) "enumerate" := ⟨_, he, rfl⟩
  unfold pyNext
  refine wpAny_bind (wpAny_attempt (wpAny_callSpecial?_slot (name := Str.ofString "__next__") tE F.slot_enumerate_next (wpAny_call_entry F.slot_enumerate_next tE F.entry_enumerate_next (show wpAny _ _ (field (.ref e) 2 >>= _) _ _ _ from ?_) (F.args_enumerate_next_1 _))))
  refine wpAny_bind (wpAny_field he rfl (x := .ref it) rfl (wpAny_bind (wpAny_nextOf_tuple_end (by simpa using nh) hit ht hx fun h' x eb ⟨o, ho, hc⟩ => ?_)))
  exact wpAny_bind (wpAny_isInstance (T := "StopIteration") (b := true) ⟨o, ho, hc⟩ isSubtype_stop (wpAny_pure (hQ _ eb)))
end
theorem turn_enumT {P : Program} {w : World} {K : PySem.W.Frag} {elts : List Expr} {kk : Nat} {tpos : Pos} (a e it : Addr) (hai : a ≠ it) (hea : e ≠ a) :
    Turn P w K (.Tuple elts kk tpos) (Itet K a) [e, it] e (fun i h => (∃ old, IsEnum h e it ((i : Nat) : Int) old) ∧ h.IsTupleIter it a i ∧ e ≠ it) where
  mem := List.mem_cons_self ..
  obj := fun i h st b hb => by
    obtain ⟨⟨old, he⟩, ⟨o, ho, _, hd⟩, _⟩ := st
    rcases List.mem_cons.mp hb with z | z
    · exact ⟨_, z ▸ he, fun v q => by cases q⟩
    · exact ⟨o, (List.mem_singleton.mp z) ▸ ho, fun v q => by rw [hd] at q; cases q⟩
  keep := fun i h h' ⟨⟨old, he⟩, hi, hne⟩ k => ⟨⟨old, k e (by simp) _ he⟩, hi.at fun o q => k it (by simp) o q, hne⟩
  item := by
    intro X hP hw hK hc i pins s σ H E I hf st hg
    subst hP hw hK
    obtain ⟨⟨old, he⟩, hit, hne⟩ := st
    obtain ⟨xs, x, hq, hx⟩ := hg
    obtain ⟨its, rv, p, hz⟩ := I.tuple hq
    obtain ⟨u, hu, ru⟩ := rv.get hx
    have li : i < its.toArray.size := by rw [List.size_toArray]; exact (List.getElem?_eq_some_iff.mp hu).1
    have el : e < s.heap.objs.size := Heap.lt_size he
    have il : it < s.heap.objs.size := by obtain ⟨_, q, _⟩ := hit; exact Heap.lt_size q
    refine wpAny_pyNext_enum_itemD (Draws.tuple (by simpa using I.ok.hd hc) it a hai its.toArray) he ⟨hit, p⟩ li hne (by simp [hne, hea]) fun y h' tk py ho hst hT hsz hk => ?_
    obtain rfl : u = y := by
      have e1 : its.toArray[i]? = some u := by simpa using hu
      rw [e1] at py; exact Option.some.inj py
    refine ⟨_, rfl, wpAny_letOwnedTupleGo_enum (s := { s with heap := h', toks := tk + 1 }) ho fun h'' he' sb => ?_⟩
    have hT2 : h''.get? s.heap.objs.size = some { cls := .type "tuple", data := .seq #[.int i tk, u] } := (sb.2 _ (Nat.ne_of_gt el)).trans hT
    have new : ObjOk X.prog X.w (upd H s.heap.objs.size (.tup [.int (i : Nat), x])) h'' s.heap.objs.size (.tup [.int (i : Nat), x]) :=
      ⟨by show 2 ≤ sizeLine; decide, [.int i tk, u], .cons ⟨_, rfl⟩ (.cons ru .nil), ⟨_, hT2, rfl, _, rfl⟩⟩
    have I1 : L2.Inv X pins σ (upd H s.heap.objs.size (.tup [.int (i : Nat), x])) { s with heap := h'', toks := tk + 1 } :=
      I.turnedNew (ch := [e, it]) (fun b ob hb q => (sb.2 b (fun z => hb (by simp [z]))).trans (hk b ob (fun z => hb (by simp [z])) (fun z => hb (by simp [z])) q)) hf (Nat.le_refl _) new
    refine ⟨.ref s.heap.objs.size, _, I1, rfl, ⟨_, x, rfl, I.hok.fresh (Nat.le_refl _), rfl, fun ys hy => by rw [I.tuple_inj hy hq]; exact hx⟩, ⟨⟨u, ?_⟩, hst.1.at fun o q => (sb.2 it (Ne.symm hne)).trans q, hne⟩, fun b hb => ?_⟩
    · rw [show ((i + 1 : Nat) : Int) = (i : Int) + 1 by omega]; exact he'
    · have hb' : b < s.heap.objs.size := by
        rcases List.mem_cons.mp hb with z | z
        · exact z ▸ el
        · exact (List.mem_singleton.mp z) ▸ il
      rw [upd_ne (Nat.ne_of_lt hb')]
      exact (hf b hb).1
  done := by
    intro X hP hw hK hc i pins s σ H E I hf st hg
    subst hP hw hK
    obtain ⟨⟨old, he⟩, hit, hne⟩ := st
    obtain ⟨xs, hq, hx⟩ := hg
    obtain ⟨its, rv, p, hz⟩ := I.tuple hq
    obtain ⟨f0, f1, f2, f3, f4, f5⟩ := hf it (by simp)
    have hl := rv.length
    exact enum_end_tup (I.ok.hd hc) he hit p (by simp; omega) fun h' eb => ⟨rfl, I.turned (t' := s.toks) (fun b o hb q => eb b o hb q) f0 f1 f3 f4 f5⟩
  self := fun A i s Q E st h => let ⟨⟨_, he⟩, _⟩ := st; wpAny_pyIter_enum he h
def iEnumT (K : PySem.W.Frag) (ta : TA) : TI := fun σ H R => ta σ H fun vs H1 => ∃ a xs, vs = [.ref a] ∧ SqT K H1 a xs ∧ R (Itet K a) H1
theorem pi_enumA {X : Cx} {e : Expr} {ta : TA} {p pos tpos : Pos} {elts : List Expr} {kk : Nat} (hg : Gl X "enumerate") (hm : X.mg "enumerate" = none) (ha : PA X [e] ta) (hs : starEach [e] X.env = [(false, eval e X.env)] := by rfl) :
    PI X (.Tuple elts kk tpos) (.Call (.Name "enumerate" p) [e] [] pos) (iEnumT X.K ta) := by
  refine ⟨fun pins s σ H R I h => Call_ (ld_blt I hg hm boot_enumerate (PyProof.Rows.callWith_type1 (thn (ha.run pos pins s σ H _ I h) fun us s1 ⟨vs, H1, I1, r1, q1⟩ => ?_) hs rfl))⟩
  obtain ⟨a, xs, rfl, hq, q⟩ := q1
  rw [Vals.ref1 r1]
  obtain ⟨its, rv, p', hz⟩ := I1.tuple hq
  have al : a < s1.heap.objs.size := by obtain ⟨o, e, _⟩ := id p'; exact Heap.lt_size e
  refine enum_make (begins_tuple a its.toArray) p' fun h' he hit hk => wpAny_pyIter_enum he ?_
  have I2 : L2.Inv X pins σ H1 { s1 with heap := h' } := I1.kept (t' := s1.toks) hk
  refine ⟨s1.heap.objs.size + 1, [s1.heap.objs.size + 1, s1.heap.objs.size], _, _, H1, rfl, I2, turn_enumT a (s1.heap.objs.size + 1) s1.heap.objs.size (Nat.ne_of_lt al) (Nat.ne_of_gt (Nat.lt_succ_of_lt al)), ⟨⟨.none, he⟩, ⟨_, hit, rfl, rfl⟩, Nat.succ_ne_self _⟩, fun b hb => ?_, q⟩
  have hle : s1.heap.objs.size ≤ b := by
    rcases List.mem_cons.mp hb with z | z
    · exact z ▸ Nat.le_add_right _ _
    · exact (List.mem_singleton.mp z) ▸ Nat.le_refl _
  exact I1.fpOk hle (I1.hok.fresh hle)
theorem for_enumT {K : PySem.W.Frag} {a : Addr} {xs : List V} {g : TG} {tb : TS} {D : Ends} {σ : L2.St} {H : Hp} (Pv : Nat → L2.St → Hp → Prop) (h0 : Pv 0 σ H) (hl : ∀ i σ H, i ≤ xs.length → Pv i σ H → SqT K H a xs)
    (hs : ∀ i x σ H T, xs[i]? = some x → Pv i σ H → H T = none → g (.ref T) σ (upd H T (.tup [.int (i : Nat), x])) fun σ2 H2 => tb { D with nx := Pv (i + 1), ct := Pv (i + 1), bk := D.nx } σ2 H2) (hd : ∀ σ H, Pv xs.length σ H → D.nx σ H) :
    ∃ W : Nat → Nat → L2.St → Hp → Prop, (∃ m, W 0 m σ H) ∧ ∀ i m σ H, W i m σ H →
      ((Itet K a).stop i H ∧ D.nx σ H) ∨ ((Itet K a).go i H ∧ ∃ N : L2.St → Hp → Prop, (∀ σ' H', N σ' H' → ∃ m', m' < m ∧ W (i + 1) m' σ' H') ∧ ∀ x H', (Itet K a).yld i H x H' → g x σ H' fun σ2 H2 => tb { D with nx := N, ct := N, bk := D.nx } σ2 H2) := by
  refine ⟨fun i m σ H => m = xs.length - i ∧ i ≤ xs.length ∧ Pv i σ H, ⟨xs.length, by simp, Nat.zero_le _, h0⟩, ?_⟩
  rintro i m σ H ⟨rfl, hi, p⟩
  have q := hl i σ H hi p
  by_cases hlt : i < xs.length
  · refine .inr ⟨⟨xs, xs[i], q, List.getElem?_eq_getElem hlt⟩, Pv (i + 1), fun σ' H' p' => ⟨xs.length - (i + 1), by omega, rfl, hlt, p'⟩, fun v H' ⟨T, x, e1, e2, e3, y⟩ => ?_⟩
    subst e1 e3
    exact hs i x σ H T (y xs q) p e2
  · obtain rfl : i = xs.length := by omega
    exact .inl ⟨⟨xs, q, Nat.le_refl _⟩, hd σ H p⟩
end My
namespace My
open PySem PySem.Spec PyProof.Rows L2
/-! ### a def of the top, by its promise -/
def Dn (P : Program) (w : World) (K : PySem.W.Frag) (mg : Str → Option Value) (base : Heap) (CX : CXT) (x : Str) (k : Nat) (ps : List Str) (sp : Sp) : Prop :=
  ∃ f fd, mg x = some (.ref f) ∧ PySem.W.keepIn K (.ref f) = true ∧ Binds K fd ps [] ∧ FnOk P w K mg base CX k f fd ps sp
section
variable {X : Cx} {CX : CXT} {x : Str} {k j : Nat} {ps : List Str} {sp : Sp} {E : XK} {p pos : Pos} {e : Expr} {es : List Expr} {t : TA}
theorem pe_d (D : Dn X.prog X.w X.K X.mg X.base CX x k ps sp) (hr : Room k X.A) (hg : Gl X x) (hx : Passes CX X E) (ha : PA X (e :: es) t) (hdb : (x == ("__debug__" : Str)) = false := by decide)
    (he : starEach (e :: es) X.env = (false, eval e X.env) :: starEach es X.env := by rfl) (hpl : (backTo pos (starEach es X.env)).any (·.1) = false := by rfl) : PE X (.Call (.Name x p) (e :: es) [] pos) (tCall sp [] E t) := by
  obtain ⟨f, fd, h1, h2, h3, h4⟩ := D
  exact pe_call h4 hr hg h1 h2 h3 .nil hx ha hdb he hpl
theorem pe_d0 (D : Dn X.prog X.w X.K X.mg X.base CX x k ps sp) (hr : Room k X.A) (hg : Gl X x) (hx : Passes CX X E) (hdb : (x == ("__debug__" : Str)) = false := by decide) : PE X (.Call (.Name x p) [] [] pos) (tCall sp [] E tNil) := by
  obtain ⟨f, fd, h1, h2, h3, h4⟩ := D
  exact pe_call0 h4 hr hg h1 h2 h3 .nil hx hdb
end
/-! ### rules with the written part named (for comprehensions) -/
section
variable {X : Cx} {K : PySem.W.Frag}
theorem op_in_seqK (h : X.K = K) : OpR X (compareOp .In) (rIn K false) := h ▸ op_in_seq
theorem op_notIn_seqK (h : X.K = K) : OpR X (compareOp .NotIn) (rIn K true) := h ▸ op_notIn_seq
theorem ix_listK (h : X.K = K) : IxR X (rIxL K) := h ▸ ix_list
theorem ix_tupK (h : X.K = K) : IxR X (rIxT K) := h ▸ ix_tup
theorem ix_seqK (h : X.K = K) : IxR X (rIx K) := h ▸ ix_seq
theorem call_len_seqK (h : X.K = K) : CallR X (.builtin "len") (fun xs H Q => ∃ p ys, xs = [.ref p] ∧ (SqL K H p ys ∨ SqT K H p ys) ∧ Q (.int ys.length) H) := h ▸ call_len_seq
theorem call_isiK (h : X.K = K) : CallR X (.builtin "isinstance") (rIsi K) := h ▸ call_isi
theorem op_eqDK (h : X.K = K) (hu : X.A.units + 64 < cLine) : OpR X (compareOp .Eq) (rEqD K) := h ▸ op_eqD hu
theorem op_neDK (h : X.K = K) (hu : X.A.units + 64 < cLine) : OpR X (compareOp .NotEq) (rNeD K) := h ▸ op_neD hu
theorem pe_fldK (h : X.K = K) {e : Expr} {f : Str} {pos : Pos} {ta : TE} (he : PE X e ta) (hb : attributeBase e f X.env (eval e X.env) = eval e X.env) : PE X (.Attribute e f pos) (tFld K ta f) := h ▸ pe_fld he hb
end
/-! ### heaps -/
/-- all that was tracked but at b is as it was -/
def But (b : Addr) (H H' : Hp) : Prop := ∀ a o, a ≠ b → H a = some o → H' a = some o
theorem But.refl (b : Addr) (H : Hp) : But b H H := fun _ _ _ h => h
theorem But.trans {b : Addr} {H H1 H2 : Hp} (x : But b H H1) (y : But b H1 H2) : But b H H2 := fun a o n h => y a o n (x a o n h)
theorem But.upd (b : Addr) (H : Hp) (o : HO) : But b H (upd H b o) := fun a u n h => by rw [upd_ne n]; exact h
theorem But.new {b p : Addr} {H H1 : Hp} {o : HO} (x : But b H H1) (h : H1 p = none) : But b H (L2.upd H1 p o) := fun a u n e => by
  have q := x a u n e
  rw [upd_ne (ne_of_none q h)]
  exact q
theorem But.of {b : Addr} {H H' : Hp} (h : Same H H') : But b H H' := fun a o _ e => h a o e
theorem Same.new {p : Addr} {H H1 : Hp} {o : HO} (x : Same H H1) (h : H1 p = none) : Same H (L2.upd H1 p o) := fun a u e => by
  have q := x a u e
  rw [upd_ne (ne_of_none q h)]
  exact q
theorem Same.sqT {K : PySem.W.Frag} {H H' : Hp} {a : Addr} {xs : List V} (e : Same H H') (h : SqT K H a xs) : SqT K H' a xs := by
  rcases h with (h | ⟨o, h⟩) | h
  · exact .inl (.inl (e _ _ h))
  · exact .inl (.inr ⟨o, e _ _ h⟩)
  · exact .inr h
/-- an object made behind H is not tracked in H -/
theorem fresh_of {H H' : Hp} (x : Same H H') {p : Addr} (h : H' p = none) : H p = none := x.free h
end My
namespace My
open PySem PySem.Spec PyProof.Rows L2
section
variable {prog : Program} {w : World} {A : Around} {E : Value → Shared → Prop} {s : Shared}
theorem len_range {r : Addr} {n : Int} {t u v : Tok} {Q : Value → Shared → Prop} (hr : s.heap.get? r = some { cls := .type "range", data := .fields #[.int 0 t, .int n u, .int 1 v] }) (h0 : 0 ≤ n) (h1 : n < 2 ^ 63) (h : Q (.int n (s.toks + 1)) { s with toks := s.toks + 1 + 1 }) : wpAny (model prog w) A (call (.builtin "len") [.ref r]) Q E s := by
  have hT : s.TypeIs (.ref r) "range" := ⟨_, hr, rfl⟩
  refine Calls.call_function_entry kind_len plain_len entry_len (args_len1 _) ?_
  unfold Builtin.«len»
  refine wpAny_bind (m := oneArg "len" _) (wpAny_pure ?_)
  have e1 : Builtin.Range.rangeSize 0 n 1 = n := by
    unfold Builtin.Range.rangeSize
    rw [if_pos (by decide)]
    split
    · rw [Int.ediv_one]; omega
    · omega
  have e2 : ¬ (Builtin.Range.rangeSize 0 n 1 ≥ 2 ^ 63) := by rw [e1]; omega
  refine wpAny_bind (m := callSpecial? (.ref r) (Str.ofString "__len__")) (wpAny_callSpecial?_slot (name := Str.ofString "__len__") hT F.slot_range_len (wpAny_call_entry F.slot_range_len hT F.entry_range_len ?_ (F.args_range_len_1 _)))
  obtain ⟨hp, g, d, tk, os⟩ := s
  wp_walk
  rw [if_neg e2]
  wp_walk
  rw [e1]
  refine ⟨_, rfl, ?_⟩
  refine wpAny_bind (wpAny_holding (wpAny_pure ?_))
  refine wpAny_bind (wpAny_letGo ?_)
  show wpAny _ _ (if n < 0 then _ else _) _ _ _
  rw [if_neg (by omega)]
  show wpAny _ _ (if n ≥ 2 ^ 63 then _ else _) _ _ _
  rw [if_neg (by omega)]
  exact wpAny_bind (wpAny_mkInt (wpAny_pure ⟨_, rfl, h⟩))
end
section
variable {X : Cx}
theorem cr_range1 : CallR X (.type "range") (fun vs H Q => ∃ j, vs = [V.int j] ∧ ∀ p, H p = none → Q (.ref p) (upd H p (.rng 0 j))) := by
  intro pins s σ H vs us Q I r h
  obtain ⟨j, rfl, q⟩ := h
  obtain ⟨u, rfl, t, rfl⟩ := vals1 r
  exact call_range_1 ⟨.ref s.heap.objs.size, upd H s.heap.objs.size (.rng 0 j), I.laid (t' := s.toks + 1 + 1) (fun b o e => Heap.get?_push_of_some _ e) (Nat.le_refl _) ⟨_, _, _, Heap.get?_push_size _ rfl⟩, rfl, q _ (I.hok.fresh (Nat.le_refl _))⟩
theorem cr_lenRange : CallR X (.builtin "len") (fun xs H Q => ∃ a n, xs = [.ref a] ∧ H a = some (.rng 0 n) ∧ 0 ≤ n ∧ n < 2 ^ 63 ∧ Q (.int n) H) := by
  intro pins s σ H xs us Q I r h
  obtain ⟨a, n, rfl, ha, h0, h1, q⟩ := h
  rw [Vals.ref1 r]
  obtain ⟨t, u, v, e⟩ := I.hok a _ ha
  exact len_range e h0 h1 ⟨.int n, H, I.tok _, ⟨_, rfl⟩, q⟩
end
end My
namespace My
open PySem PySem.Spec PyProof.Rows L2
/-! ### classes of the program: what == and isinstance lean on -/
def ownB (K : PySem.W.Frag) (C : Addr) (ts : List String) : Bool :=
  decide (PySem.W.findIn K (.ref C) "__class__" = some (some (.builtin "object.__class__"))) && (decide (PySem.W.specialIn K (.builtin "object.__class__") "__get__" = some (some (.builtin "getset_descriptor.__get__"))) && (decide (PySem.W.takesIn K (.builtin "object.__class__") = some true) &&
  (decide (PySem.W.mroIn K C (.type "object") = some true) && (decide (PySem.W.kitOne K (.ref C) (.ref C) = some true) && (decide (PySem.W.findIn K (.ref C) "__ne__" = some (some (.builtin "object.__ne__"))) &&
  ts.all fun t => PySem.W.notFirst K C (.type t) && decide (PySem.W.kitOne K (.type t) (.ref C) = some false))))))
structure OwnC (K : PySem.W.Frag) (C : Addr) (ts : List String) : Prop where
  ha : PySem.W.findIn K (.ref C) "__class__" = some (some (.builtin "object.__class__"))
  hn : PySem.W.specialIn K (.builtin "object.__class__") "__get__" = some (some (.builtin "getset_descriptor.__get__"))
  htk : PySem.W.takesIn K (.builtin "object.__class__") = some true
  hm : PySem.W.mroIn K C (.type "object") = some true
  me : PySem.W.kitOne K (.ref C) (.ref C) = some true
  ne : PySem.W.findIn K (.ref C) "__ne__" = some (some (.builtin "object.__ne__"))
  ts : ∀ t ∈ ts, PySem.W.notFirst K C (.type t) = true ∧ PySem.W.kitOne K (.type t) (.ref C) = some false
theorem ownB_ok {K : PySem.W.Frag} {C : Addr} {ts : List String} (h : ownB K C ts = true) : OwnC K C ts := by
  obtain ⟨h1, h⟩ := He.ba h
  obtain ⟨h2, h⟩ := He.ba h
  obtain ⟨h3, h⟩ := He.ba h
  obtain ⟨h4, h⟩ := He.ba h
  obtain ⟨h5, h⟩ := He.ba h
  obtain ⟨h6, h⟩ := He.ba h
  refine ⟨of_decide_eq_true h1, of_decide_eq_true h2, of_decide_eq_true h3, of_decide_eq_true h4, of_decide_eq_true h5, of_decide_eq_true h6, fun t ht => ?_⟩
  obtain ⟨a, b⟩ := He.ba (List.all_eq_true.mp h t ht)
  exact ⟨a, of_decide_eq_true b⟩
theorem OwnC.ty {K : PySem.W.Frag} {C : Addr} {ts : List String} (o : OwnC K C ts) (cl : Cls K C) {H : Hp} {a dx : Addr} {fs : List (Str × V)} (e : H a = some (.ins C dx fs)) : TyX K H (.ref a) (.ref C) := .base (.ins e cl o.ha o.hn o.htk o.hm)
theorem notFirst_self (K : PySem.W.Frag) (C : Addr) : PySem.W.notFirst K C (.ref C) = true := by
  unfold PySem.W.notFirst
  rw [beq_self_eq_true]
  rfl
/-! ### a def called by a builtin -/
section
variable {X : Cx} {CX : CXT} {k : Nat} {f : Addr} {fd : FuncData} {ps : List Str} {sp : Sp} {E : XK}
theorem run_at {A : Around} {pins : List (Addr × Obj)} {σ : L2.St} {H : Hp} {s : Shared} {Q : VK} {us : List Value} {vs : List V} (F : FnG X.prog X.w X.K X.mg X.base CX k f fd ps sp) (hb : Binds X.K fd ps []) (hx : Passes CX X E) (sb : Sub X k A) (hg : A.guards = some []) (I : L2.Inv X pins σ H s) (r : Vals vs us) (h : sp vs H Q E) :
    wpAny (model X.prog X.w) A (call (.ref f) us) (EP X pins σ Q) X.xe s := by
  have e0 : Env0 X.prog X.w X.K X.mg X.base A X.stack s H := by
    have e := I.env0
    exact ⟨by rw [sb.fr]; exact e.frames, e.mod, e.bs, e.bsz, e.funs, e.frf, e.hok, e.bare⟩
  have hl : (us ++ []).length = ps.length := by rw [List.append_nil, ← r.length]; exact F.len _ _ _ _ h
  have bt := hb s us I.kIn hl
  rw [List.append_nil] at bt
  refine wpAny_call (codeAny_mono (F.run A X.stack s H ⟨us, []⟩ us vs Q E hg sb.room e0 bt r h) fun r s' hq => ?_)
  cases r with
  | error e => exact hx pins σ H s e s' I hq
  | ok fl => cases fl with
    | ret u => exact I.after hq
    | next => exact hq.elim
    | brk => exact hq.elim
    | cont => exact hq.elim
theorem run_at0 {A : Around} {pins : List (Addr × Obj)} {σ : L2.St} {H : Hp} {s : Shared} {Q : VK} {us : List Value} {vs : List V} (F : FnOk X.prog X.w X.K X.mg X.base CX k f fd ps sp) (hb : Binds X.K fd ps []) (hx : Passes CX X E) (sb : Sub X k A) (I : L2.Inv X pins σ H s) (r : Vals vs us) (h : sp vs H Q E) :
    wpAny (model X.prog X.w) A (call (.ref f) us) (EP X pins σ Q) X.xe s := by
  have e0 : Env0 X.prog X.w X.K X.mg X.base A X.stack s H := by
    have e := I.env0
    exact ⟨by rw [sb.fr]; exact e.frames, e.mod, e.bs, e.bsz, e.funs, e.frf, e.hok, e.bare⟩
  have hl : (us ++ []).length = ps.length := by rw [List.append_nil, ← r.length]; exact F.len _ _ _ _ h
  have bt := hb s us I.kIn hl
  rw [List.append_nil] at bt
  refine wpAny_call (codeAny_mono (F.run A X.stack s H ⟨us, []⟩ us vs Q E sb.room e0 bt r h) fun r s' hq => ?_)
  cases r with
  | error e => exact hx pins σ H s e s' I hq
  | ok fl => cases fl with
    | ret u => exact I.after hq
    | next => exact hq.elim
    | brk => exact hq.elim
    | cont => exact hq.elim
variable {C : Addr}
/-- len(o), o of a class with its own __len__ -/
theorem cr_lenOwn (F : FnOk X.prog X.w X.K X.mg X.base CX k f fd ps sp) (hm : Meth X.K C "__len__" f) (hb : Binds X.K fd ps []) (hx : Passes CX X E) (hr : Room (k + 1) X.A) :
    CallR X (.builtin "len") (fun xs H Q => ∃ a dx fs, xs = [.ref a] ∧ H a = some (.ins C dx fs) ∧ sp [.ref a] H (fun v H' => ∃ n : Int, v = .int n ∧ (0 ≤ n ∧ n < 2 ^ 63) ∧ Q (.int n) H') E) := by
  intro pins s σ H xs us Q I r h
  obtain ⟨a, dx, fs, rfl, ha, h⟩ := h
  rw [Vals.ref1 r]
  obtain ⟨mA, J, _⟩ := ins_get I.hok ha
  obtain ⟨od, J, _⟩ := J.look
  obtain ⟨m, hF⟩ := I.fr
  refine PySem.W.len_K hF I.ok.mod.kin J hm.at_ hm.fn (wpAny_mono (run_at0 (vs := [.ref a]) F hb hx ⟨hr.in1, rfl⟩ I (.cons rfl .nil) h) (fun v s' z => ?_) fun _ _ e => e)
  obtain ⟨v', H', I', rv, n, rfl, b, q⟩ := z
  obtain ⟨t, rfl⟩ := rv
  exact ⟨b, .int n, H', I'.tok _, ⟨_, rfl⟩, q⟩
/-- repr(o), o of a class with its own __repr__ -/
theorem cr_reprOwn (F : FnG X.prog X.w X.K X.mg X.base CX k f fd ps sp) (hm : Meth X.K C "__repr__" f) (hb : Binds X.K fd ps []) (hx : Passes CX X E) (hg : X.A.guards = some []) (hr : Room (k + 1) X.A) :
    CallR X (.builtin "repr") (fun xs H Q => ∃ a dx fs, xs = [.ref a] ∧ H a = some (.ins C dx fs) ∧ sp [.ref a] H (fun v H' => ∃ z, v = .str z ∧ Q (.str z) H') E) := by
  intro pins s σ H xs us Q I r h
  obtain ⟨a, dx, fs, rfl, ha, h⟩ := h
  rw [Vals.ref1 r]
  obtain ⟨mA, J, _⟩ := ins_get I.hok ha
  obtain ⟨od, J, _⟩ := J.look
  obtain ⟨m, hF⟩ := I.fr
  refine PySem.W.repr_K (by have := hr.un; show X.A.units + 1 < _; omega) hF I.ok.mod.kin J hm.at_ hm.fn (wpAny_mono (run_at (vs := [.ref a]) F hb hx ⟨hr.in1, rfl⟩ hg I (.cons rfl .nil) h) (fun v s' z => ?_) fun _ _ e => e)
  obtain ⟨v', H', I', rv, z, rfl, q⟩ := z
  obtain ⟨t, rfl⟩ := rv
  exact ⟨.str z, H', I', ⟨_, rfl⟩, q⟩
/-- o == y by an own __eq__ -/
theorem op_eqOwn (F : FnOk X.prog X.w X.K X.mg X.base CX k f fd ps sp) (hm : Meth X.K C "__eq__" f) (hb : Binds X.K fd ps []) (hx : Passes CX X E) (hr : Room k X.A) :
    OpR X (compareOp .Eq) (fun x y H Q => ∃ a dx fs t, x = .ref a ∧ H a = some (.ins C dx fs) ∧ TyX X.K H y t ∧ PySem.W.notFirst X.K C t = true ∧ sp [.ref a, y] H (fun v H' => ∃ b, v = .bl b ∧ Q (.bl b) H') E) := by
  intro pins s σ H x y v u Q I rx ry h
  obtain ⟨a, dx, fs, t, rfl, ha, ty, nf, h⟩ := h
  cases rx
  obtain ⟨P0, Z, p, _⟩ := kit_of I ry ty
  obtain ⟨mA, J, _⟩ := ins_get I.hok ha
  obtain ⟨od, J, _⟩ := J.look
  obtain ⟨m, hF⟩ := I.fr
  unfold compareOp
  refine PySem.W.cmp_K (op := .Eq) hr.units0 hF I.ok.mod.kin J (Z.ty _ _ I.kIn p) nf hm.at_ hm.fn (wpAny_mono (run_at0 (vs := [.ref a, y]) F hb hx ⟨hr, rfl⟩ I (.cons rfl (.cons ry .nil)) h) (fun w s' z => ?_) fun _ _ e => e)
  obtain ⟨v', H', I', rv, b, rfl, q⟩ := z
  cases rv
  exact ⟨.bl b, H', I', rfl, q⟩
/-- o != y, by an own __eq__ and object's __ne__ -/
theorem op_neOwn (F : FnOk X.prog X.w X.K X.mg X.base CX k f fd ps sp) (hm : Meth X.K C "__eq__" f) {ts : List String} (o : OwnC X.K C ts) (hb : Binds X.K fd ps []) (hx : Passes CX X E) (hr : Room (k + 1) X.A) :
    OpR X (compareOp .NotEq) (fun x y H Q => ∃ a dx fs t, x = .ref a ∧ H a = some (.ins C dx fs) ∧ TyX X.K H y t ∧ PySem.W.notFirst X.K C t = true ∧ sp [.ref a, y] H (fun v H' => ∃ b, v = .bl b ∧ Q (.bl (!b)) H') E) := by
  intro pins s σ H x y v u Q I rx ry h
  obtain ⟨a, dx, fs, t, rfl, ha, ty, nf, h⟩ := h
  cases rx
  obtain ⟨P0, Z, p, _⟩ := kit_of I ry ty
  obtain ⟨mA, J, _⟩ := ins_get I.hok ha
  obtain ⟨od, J, _⟩ := J.look
  obtain ⟨m, hF⟩ := I.fr
  have kin : X.K.In s.heap := I.kIn
  have one : wpAny (model X.prog X.w) X.A (tryCompare (.ref a) "__ne__" u) (fun r s' => ∃ v, r = some v ∧ EP X pins σ Q v s') X.xe s := by
    unfold tryCompare
    refine wpAny_bind ?_
    simp only [callSpecialIfBound?, bindSpecialIfBound?]
    refine wpAny_holding (wpAny_bind (wpAny_bind (wpAny_bind (J.type.here ((PySem.W.looks_findIn kin o.ne).here ?_)))))
    refine wpAny_bind (wpAny_askSetting (wpAny_ite ?_))
    have bs : ∀ self, bindSpecial (.builtin "object.__ne__") self = pure (.builtin "object.__ne__", [self]) := fun self => by first | rfl | kernel_rfl
    have fin : wpAny (model X.prog X.w) X.A (call (.builtin "object.__ne__") ([.ref a] ++ [u]) >>= fun v => pure (some v)) (fun r s' => wpAny (model X.prog X.w) X.A (match r with | some .notImplemented => pure none | none => pure none | some v => pure (some v)) (fun r s' => ∃ v, r = some v ∧ EP X pins σ Q v s') X.xe s') X.xe s := by
      refine wpAny_bind (wpAny_call (codeAny_call_builtin PySem.F.cmp_object.ne.plain PySem.F.cmpEntry_ne (PySem.W.check_slot (i := "object.__ne__") (owner := "object") (n := "__ne__") PySem.F.cmpKind_ne PySem.F.cmpSplit_ne (J.type.andThen (PySem.W.looks_mroIn kin o.hm)) (PySem.F.cmpArgs_ne _ _) ?_)))
      unfold Builtin.«object.__ne__»
      refine wpAny_bind (m := slotArgs "__ne__" 1 _) (wpAny_pure ?_)
      refine wpAny_bind (m := cRoomFor _ _) (wpAny_cRoomFor (by have := hr.un; show X.A.units + 1 < _; omega) ?_)
      refine wpAny_bind (m := callSpecialIfBound? (.ref a) (Str.ofString "__eq__") [u]) (PySem.W.ifBound_K kin J hm.at_ hm.fn (wpAny_mono (run_at0 (vs := [.ref a, y]) F hb hx ⟨hr.in1, rfl⟩ I (.cons rfl (.cons ry .nil)) h) (fun w s' z => ?_) fun _ _ e => e))
      obtain ⟨v', H', I', rv, b, rfl, q⟩ := z
      cases rv
      refine wpAny_bind (m := truthy (.bool b)) (wpAny_truthy_bool (wpAny_pure ?_))
      exact wpAny_pure (wpAny_pure ⟨_, rfl, .bl (!b), H', I', rfl, q⟩)
    split
    · exact wpAny_bind ((PySem.W.Looks.of_pure (bs _)).here (wpAny_pure (by exact fin)))
    · exact wpAny_tryCatch (wpAny_bind ((PySem.W.Looks.of_pure (bs _)).here (wpAny_pure (by exact fin))))
  unfold compareOp
  show wpAny _ _ (richCompare .NotEq (.ref a) u) _ _ _
  unfold richCompare
  simp only [oneThing_ref]
  refine wpAny_holding (wpAny_bind (wpAny_cRoomFor hr.units0 ?_))
  refine wpAny_bind (J.type.here (wpAny_bind ((Z.ty _ _ I.kIn p).here ?_)))
  split
  · rename_i q
    have e : PySem.W.subIn X.K t (.ref C) = some false := by
      rcases Bool.or_eq_true_iff.mp nf with e | e
      · rw [beq_iff_eq.mp e] at q
        simp at q
      · exact beq_iff_eq.mp e
    refine wpAny_bind ((PySem.W.looks_subIn kin e).here ?_)
    simp only [Bool.false_eq_true, if_false]
    exact wpAny_bind (wpAny_mono one (fun r s' ⟨v, e, hq⟩ => by rw [e]; exact wpAny_pure hq) fun _ _ e => e)
  · refine wpAny_bind (wpAny_pure ?_)
    simp only [Bool.false_eq_true, if_false]
    exact wpAny_bind (wpAny_mono one (fun r s' ⟨v, e, hq⟩ => by rw [e]; exact wpAny_pure hq) fun _ _ e => e)
/-- {x!r}, of data -/
def tFmtD (K : PySem.W.Frag) (te : TE) : TE := fun σ H Q => te σ H fun x H1 => ∃ d, Dp K H1 x d ∧ d.showable = true ∧ d.hasDict = false ∧ d.depth ≤ 60 ∧ d.shown.length ≤ sizeLine ∧ Q (.str d.shown) H1
theorem pe_fmtD (hg : X.A.guards = some []) (hu : X.A.units + 64 < cLine) {e : Expr} {te : TE} {pos : Pos} (he : PE X e te) : PE X (.FormattedValue e 114 none pos) (tFmtD X.K te) := by
  refine ⟨fun pins s σ H Q I h => wpAny_FormattedValue_repr (thn (he.run pins s σ H _ I h) fun v s1 ⟨x, H1, I1, r1, d, dp, sh, nd, de, sz, q⟩ => ?_)⟩
  cases dp with
  | non => cases (show _ = Value.none from r1); exact PySem.pyReprObj_none (wpAny_formatField_str ⟨.str _, H1, I1.tok _, ⟨_, rfl⟩, q⟩ ⟨.str _, H1, I1.tok _, ⟨_, rfl⟩, q⟩ sz)
  | bl b => cases (show _ = Value.bool b from r1); exact PySem.pyReprObj_bool (wpAny_formatField_str ⟨.str _, H1, I1.tok _, ⟨_, by cases b <;> rfl⟩, q⟩ ⟨.str _, H1, I1.tok _, ⟨_, by cases b <;> rfl⟩, q⟩ (by cases b <;> exact sz))
  | int i => obtain ⟨tk, rfl⟩ := r1; exact pyReprObj_int (of_decide_eq_true (show decide (i.natAbs.log2 < 1920) = true from sh)) (wpAny_formatField_str ⟨.str _, H1, I1.tok _, ⟨_, rfl⟩, q⟩ ⟨.str _, H1, I1.tok _, ⟨_, rfl⟩, q⟩ sz)
  | str y => obtain ⟨tk, rfl⟩ := r1; exact pyReprObj_str (wpAny_formatField_str ⟨.str _, H1, I1.tok _, ⟨_, rfl⟩, q⟩ ⟨.str _, H1, I1.tok _, ⟨_, rfl⟩, q⟩ sz) sz
  | @lst a ys ds hs hd =>
    cases (show _ = Value.ref a from r1)
    obtain ⟨as, rd⟩ := Dp.reads I1 _ (.ref a) _ (.lst hs hd) rfl
    exact PySem.pyReprObj_of_reads (h₀ := s1.heap) rd sh (PySem.PyData.noDict_hsm nd) hg (by omega) (fun _ _ z => z) (fun h' u tk kp => wpAny_formatField_str ⟨.str _, H1, I1.kept kp, ⟨_, rfl⟩, q⟩ ⟨.str _, H1, (I1.kept (t' := tk) kp).tok _, ⟨_, rfl⟩, q⟩ sz) sz
  | @tup a ys ds hs hd =>
    cases (show _ = Value.ref a from r1)
    obtain ⟨as, rd⟩ := Dp.reads I1 _ (.ref a) _ (.tup hs hd) rfl
    exact PySem.pyReprObj_of_reads (h₀ := s1.heap) rd sh (PySem.PyData.noDict_hsm nd) hg (by omega) (fun _ _ z => z) (fun h' u tk kp => wpAny_formatField_str ⟨.str _, H1, I1.kept kp, ⟨_, rfl⟩, q⟩ ⟨.str _, H1, (I1.kept (t' := tk) kp).tok _, ⟨_, rfl⟩, q⟩ sz) sz
end
end My
namespace My
open PySem PySem.Spec PyProof.Rows L2
/-! ### t[::-1], t a tuple -/
theorem rev_adjust (n : Nat) : Builtin.Slice.sliceAdjust none none (-1) (n : Int) = ((n : Int) - 1, -1) := rfl
theorem rev_places (n : Nat) : Builtin.Slice.slicePlaces ((n : Int) - 1) (-1) (-1) = n := by
  unfold Builtin.Slice.slicePlaces
  rw [if_neg (show ¬ ((-1 : Int) > 0) by decide)]
  by_cases h : (n : Int) - 1 > -1
  · rw [if_pos h, show (- -1 : Int) = 1 from rfl, Int.ediv_one]
    omega
  · rw [if_neg h]
    omega
theorem rev_pick (xs : Array Value) : ((List.range xs.size).filterMap fun (k : Nat) => xs[(((xs.size : Nat) : Int) - 1 + (k : Int) * -1).toNat]?).toArray = xs.toList.reverse.toArray := by
  have e : (List.range xs.size).filterMap (fun (k : Nat) => xs[(((xs.size : Nat) : Int) - 1 + (k : Int) * -1).toNat]?) = ((List.range xs.size).map fun k => xs.size - 1 - k).filterMap (xs[·]?) := by
    rw [List.filterMap_map]
    have go : ∀ l : List Nat, (∀ k ∈ l, k < xs.size) → l.filterMap (fun (k : Nat) => xs[(((xs.size : Nat) : Int) - 1 + (k : Int) * -1).toNat]?) = l.filterMap ((xs[·]?) ∘ fun k => xs.size - 1 - k) := fun l hl => by
      induction l with
      | nil => rfl
      | cons k l ih =>
        have hk := hl k List.mem_cons_self
        have e1 : (((xs.size : Nat) : Int) - 1 + (k : Int) * -1).toNat = xs.size - 1 - k := by omega
        rw [List.filterMap_cons, List.filterMap_cons, ih fun j hj => hl j (List.mem_cons_of_mem _ hj), e1]
        rfl
    exact go _ fun k hk => List.mem_range.mp hk
  rw [e, PySem.W.krv_range, List.filterMap_reverse, PySem.W.krv_all]
section
variable {prog : Program} {w : World} {A : Around} {E : Value → Shared → Prop} {s : Shared}
theorem rev_applied {sl : Addr} {vl vu vk : Value} {n : Nat} {Q : Int × Int × Nat → Shared → Prop} (hs : s.heap.IsSliceOf sl vl vu vk) (pl : IsPart vl none) (pu : IsPart vu none) (pk : IsPart vk (some (-1))) (h : Q ((n : Int) - 1, -1, n) s) :
    wpAny (model prog w) A (Builtin.Slice.sliceApplied (.ref sl) (pure (n : Int))) Q E s := by
  obtain ⟨ob, h1, h2, h3⟩ := id hs
  unfold Builtin.Slice.sliceApplied Builtin.Slice.sliceFields
  refine wpAny_bind (wpAny_bind (wpAny_field h1 h3 (x := vl) rfl (wpAny_bind (wpAny_field h1 h3 (x := vu) rfl (wpAny_bind (wpAny_field h1 h3 (x := vk) rfl (wpAny_pure ?_)))))))
  refine wpAny_bind (HT.slicePart_ pk ?_)
  show wpAny _ _ (if ((-1 : Int) == 0) = true then _ else _) _ _ s
  rw [if_neg (show ¬ ((-1 : Int) == 0) = true by decide)]
  refine wpAny_bind (HT.slicePart_ pl (wpAny_bind (HT.slicePart_ pu (wpAny_bind (wpAny_pure ?_)))))
  show wpAny _ _ (match Builtin.Slice.sliceAdjust none none (-1) (n : Int) with | (lo, hi) => pure (lo, (-1 : Int), Builtin.Slice.slicePlaces lo hi (-1))) _ _ s
  rw [rev_adjust n]
  show wpAny _ _ (pure ((n : Int) - 1, (-1 : Int), Builtin.Slice.slicePlaces ((n : Int) - 1) (-1) (-1))) _ _ s
  rw [rev_places]
  exact wpAny_pure h
theorem rev_item {t sl : Addr} {its : Array Value} {vl vu vk : Value} {Q : Value → Shared → Prop} (ht : IsTup s.heap t its) (hs : s.heap.IsSliceOf sl vl vu vk) (pl : IsPart vl none) (pu : IsPart vu none) (pk : IsPart vk (some (-1)))
    (h : Q (.ref s.heap.objs.size) { s with heap := s.heap.push { cls := .type "tuple", data := .seq its.toList.reverse.toArray } }) (hz : its.size ≤ sizeLine) : wpAny (model prog w) A (getItem (.ref t) (.ref sl)) Q E s := by
  have ok : sizeOk (.seq its.toList.reverse.toArray) := by
    show its.toList.reverse.toArray.size ≤ sizeLine
    rw [List.size_toArray, List.length_reverse, Array.length_toList]
    exact hz
  obtain ⟨ob, h1, h2, h3⟩ := id hs
  unfold getItem
  try with_reducible refine wpAny_holding ?_
  first | refine wpAny_bind (wpAny_pure ?_) | skip
  refine wpAny_bind (wpAny_sequenceKey ht.typeIs (by decide) ?_)
  refine wpAny_bind (wpAny_callSpecial?_slot (name := Str.ofString "__getitem__") ht.typeIs PyProof.Rows.slot_tuple_getitem (wpAny_call_entry PyProof.Rows.slot_tuple_getitem ht.typeIs entry_tuple_getitem ?_ (args_tuple_getitem _ _)))
  show wpAny _ _ (Builtin.Tuple.tupleItemsOf (.ref t) >>= _) _ _ s
  refine wpAny_bind (tupleItemsOf_ ht (wpAny_bind (wpAny_typeOf (⟨ob, h1, h2⟩ : s.TypeIs (.ref sl) "slice") ?_)))
  rw [if_pos (by decide)]
  refine wpAny_bind (rev_applied hs pl pu pk ?_)
  show wpAny _ _ (if (((its.size : Nat) : Int) - 1 == 0 && (-1 : Int) == 1 && its.size == its.size) = true then _ else _) _ _ s
  rw [if_neg (by intro q; rw [show ((-1 : Int) == 1) = false from rfl, Bool.and_false, Bool.false_and] at q; cases q), rev_pick]
  first
    | exact wpAny_bind (m := Builtin.Tuple.tupleExact _) (wpAny_newObj_type (wpAny_pure ⟨_, rfl, wpAny_pure h⟩) ok)
    | exact wpAny_bind (wpAny_bind (m := Builtin.Tuple.tupleExact _) (wpAny_newObj_type (wpAny_pure ⟨_, rfl, wpAny_pure h⟩) ok))
    | exact wpAny_bind (m := Builtin.Tuple.tupleExact _) (wpAny_newObj_type (wpAny_bind (wpAny_pure (wpAny_pure ⟨_, rfl, wpAny_pure h⟩))) ok)
    | exact wpAny_bind (wpAny_bind (m := Builtin.Tuple.tupleExact _) (wpAny_newObj_type (wpAny_pure (wpAny_pure ⟨_, rfl, wpAny_pure h⟩)) ok))
end
section
variable {X : Cx}
def tRevT (K : PySem.W.Frag) (te : TE) : TE := fun σ H Q => te σ H fun x H1 => ∃ a xs, x = .ref a ∧ SqT K H1 a xs ∧ ∀ p, H1 p = none → Q (.ref p) (upd H1 p (.tup xs.reverse))
theorem pe_revT {e : Expr} {te : TE} {k : Nat} {p1 p2 p3 pos : Pos} (he : PE X e te) : PE X (.Subscript e (.Slice none none (some (.UnaryOp .USub (.Constant (.int 1) k p1) p2)) p3) pos) (tRevT X.K te) := by
  refine ⟨fun pins s σ H Q I h => ?_⟩
  refine Subscript_ (thn (he.run pins s σ H _ I h) fun v s1 ⟨x, H1, I1, r1, a, xs, ex, hx, q⟩ => ?_)
  subst ex
  cases r1
  have step : PO X (some (.UnaryOp .USub (.Constant (.int 1) k p1) p2)) (tPart (tUn (rU fun i => .int (-i)) (tC (.int 1)))) := po_some (pe_un un_neg pe_int)
  refine wpAny_Slice (thn (po_none.run pins s1 σ H1 (fun o H2 => o = none ∧ H2 = H1) I1 ⟨rfl, rfl⟩) fun vl s2 ⟨l, H2, I2, pl, el, e2⟩ => ?_)
  subst el e2
  refine thn (po_none.run pins s2 σ H2 (fun o H3 => o = none ∧ H3 = H2) I2 ⟨rfl, rfl⟩) fun vu s3 ⟨u, H3, I3, pu, eu, e3⟩ => ?_
  subst eu e3
  refine thn (step.run pins s3 σ H3 (fun o H4 => o = some (-1) ∧ H4 = H3) I3 ⟨1, rfl, -1, rfl, rfl, rfl⟩) fun vk s4 ⟨o, H4, I4, pk, eo, e4⟩ => ?_
  subst eo e4
  have I5 : Inv X pins σ H4 { s4 with heap := s4.heap.push { cls := .type "slice", data := .fields #[vl, vu, vk] } } := I4.kept (t' := s4.toks) fun b ob z => Heap.get?_push_of_some _ z
  obtain ⟨its, r, ht, hz⟩ := I5.tuple hx
  have hlen := r.length
  show wpAny (model X.prog X.w) X.A (subscriptTail e (.Slice none none (some (.UnaryOp .USub (.Constant (.int 1) k p1) p2)) p3) (.ref a) (.ref s4.heap.objs.size)) (EP X pins σ Q) X.xe { s4 with heap := s4.heap.push { cls := .type "slice", data := .fields #[vl, vu, vk] } }
  refine tail_any (ops := [.ref a, .ref s4.heap.objs.size]) ht.typeIs (PyProof.Rows.slot_tuple_getitem.lookup) ?_ (by with_unfolding_all rfl)
  refine rev_item ht (Heap.IsSliceOf.new _ vl vu vk) pl pu pk ?_ (by rw [List.size_toArray]; omega)
  refine ⟨.ref _, _, I5.laid (t' := s4.toks) (o := .tup xs.reverse) (fun b ob z => Heap.get?_push_of_some _ z) (Nat.le_refl _) ?_, rfl, q _ (I5.hok.fresh (Nat.le_refl _))⟩
  exact ⟨by rw [List.length_reverse]; exact hz, _, r.reverse, IsTup.new _ _⟩
end
/-! ### a def of the top that is called where nothing is being shown -/
def DnG (P : Program) (w : World) (K : PySem.W.Frag) (mg : Str → Option Value) (base : Heap) (CX : CXT) (x : Str) (k : Nat) (ps : List Str) (sp : Sp) : Prop :=
  ∃ f fd, mg x = some (.ref f) ∧ PySem.W.keepIn K (.ref f) = true ∧ Binds K fd ps [] ∧ FnG P w K mg base CX k f fd ps sp
section
variable {X : Cx} {CX : CXT} {x : Str} {k : Nat} {ps : List Str} {sp : Sp} {E : XK} {p pos : Pos} {e : Expr} {es : List Expr} {t : TA}
theorem pe_dG (D : DnG X.prog X.w X.K X.mg X.base CX x k ps sp) (hgu : X.A.guards = some []) (hr : Room k X.A) (hg : Gl X x) (hx : Passes CX X E) (ha : PA X (e :: es) t) (hdb : (x == ("__debug__" : Str)) = false := by decide)
    (hall : (backToKw pos (keywordEach [] X.env)).all (·.1.isSome) = true := by rfl) (he : starEach (e :: es) X.env = (false, eval e X.env) :: starEach es X.env := by rfl)
    (hpl : ((backTo pos (starEach (e :: es) X.env)).any (·.1) || (backToKw pos (keywordEach [] X.env)).any (·.1.isNone)) = false := by rfl) : PE X (.Call (.Name x p) (e :: es) [] pos) (tCall sp [] E t) := by
  obtain ⟨f, fd, hm, hk, hb, F⟩ := D
  refine ⟨fun pins s σ H Q I h => wpAny_Call_Name_kw (ld_glob I hg hm (PySem.W.callWith_KW (h₀ := X.base) I.ok.mod.kin hk hall (thn (ha.run pos pins s σ H _ I h) fun us s1 ⟨vs, H1, I1, r, q⟩ => ?_) hpl he) hdb)⟩
  refine thn (pk_nil.run pos pins s1 σ H1 (fun zs H2 => zs = [] ∧ H2 = H1) I1 ⟨rfl, rfl⟩) fun ws s2 ⟨zs, H2, I2, rz, ez, eh⟩ => ⟨I2.kIn, ?_⟩
  subst ez eh
  cases rz
  have hl := F.len _ _ _ _ q
  rw [List.append_nil] at q hl
  exact Runs.gd (ks := []) (gV := fun vs _ => vs ++ []) F hgu hr (Binds.kbn (n := ps.length) hb .nil rfl) hx pins s2 σ _ us [] vs [] Q I2 r .nil hl rfl (by show sp (vs ++ []) _ Q E; rw [List.append_nil]; exact q)
end
/-! ### C(k = v, ..) -/
section
variable {X : Cx} {CX : CXT} {k : Nat} {f C : Addr} {fd : FuncData} {ps ks : List Str} {sp : Sp} {E : XK} {x : Str} {p pos : Pos} {kws : List Keyword} {tk : TA} {g : List Value → List Value → List Value} {gV : List V → List V → List V}
theorem pe_makeN0 (M : Mk X.K C f) (F : FnOk X.prog X.w X.K X.mg X.base CX k f fd ps sp) (hr : Room (k + 1) X.A) (hg : Gl X x) (hm : X.mg x = some (.ref C)) (hb : KBn X.K fd ps 1 ks g gV) (hx : Passes CX X E)
    (hkw : PK X kws tk) (hall : (backToKw pos (keywordEach kws X.env)).all (·.1.isSome) = true := by rfl) (hks : (backToKw pos (keywordEach kws X.env)).filterMap (·.1) = ks := by rfl) (hdb : (x == ("__debug__" : Str)) = false := by decide)
    (hpl : ((backTo pos (starEach [] X.env)).any (·.1) || (backToKw pos (keywordEach kws X.env)).any (·.1.isNone)) = false := by rfl) : PE X (.Call (.Name x p) [] kws pos) (tMakeN C 0 ks.length sp gV E tNil tk) := by
  refine ⟨fun pins s σ H Q I h => wpAny_Call_Name_kw (ld_glob I hg hm (PySem.W.callWith_KW0 (first := []) (h₀ := X.base) I.ok.mod.kin M.kp hall ?_ hpl) hdb)⟩
  refine thn (hkw.run pos pins s σ H _ I h) fun ws s2 ⟨zs, H2, I2, rz, l1, l2, q2⟩ => ⟨I2.kIn, ?_⟩
  rw [hks]
  exact run_makeN (n := 0) (us := []) (vs := []) M F hr hb hx I2 .nil rz l1 l2 q2
end
end My
namespace My
open PySem PySem.Spec PyProof.Rows L2
def top (i : Nat) : Stmt := PySem.Challenge.pw_leasepair_k01_pools_made.main.body.getD i (.Pass ⟨0, 0, 0, 0⟩)
abbrev s_is_whole : Stmt := top 3
abbrev s_is_whole_within : Stmt := top 4
abbrev s_is_number : Stmt := top 5
abbrev s_NoPoolD_initD : Stmt := inClass (top 7) 0
abbrev s_PoolD_initD : Stmt := inClass (top 10) 0
abbrev s_Pool_stretches : Stmt := inClass (top 10) 1
abbrev s_Pool_has : Stmt := inClass (top 10) 2
abbrev s_PoolD_eqD : Stmt := inClass (top 10) 10
abbrev s_PoolD_lenD : Stmt := inClass (top 10) 11
abbrev s_PoolD_strD : Stmt := inClass (top 10) 12
abbrev s_PoolD_reprD : Stmt := inClass (top 10) 13
abbrev s_refuse_wrong_stretches : Stmt := top 11
abbrev s_is_stretch : Stmt := top 12
abbrev s_fewest : Stmt := top 13
abbrev s_stretch_text : Stmt := top 14
abbrev s_l_bag : Stmt := top 16
abbrev s_l_take : Stmt := top 17
abbrev s_l_has : Stmt := top 18
abbrev s_l_fewest : Stmt := top 19
abbrev s_l_stretches : Stmt := top 20
abbrev s_l_same : Stmt := top 21
abbrev s_l_whole : Stmt := top 22
abbrev s_l_right : Stmt := top 23
abbrev s_l_alike : Stmt := top 24
abbrev s_law : Stmt := top 25
abbrev N_is_whole : List Str := ["thing"]
theorem sc_is_whole : FnScope N_is_whole ["thing"] (defScope s_is_whole) := ⟨rfl, rfl, rfl, by decide +kernel, rfl, by decide +kernel, by decide +kernel⟩
abbrev N_is_whole_within : List Str := ["thing", "low", "high"]
theorem sc_is_whole_within : FnScope N_is_whole_within ["thing", "low", "high"] (defScope s_is_whole_within) := ⟨rfl, rfl, rfl, by decide +kernel, rfl, by decide +kernel, by decide +kernel⟩
abbrev N_is_number : List Str := ["thing"]
theorem sc_is_number : FnScope N_is_number ["thing"] (defScope s_is_number) := ⟨rfl, rfl, rfl, by decide +kernel, rfl, by decide +kernel, by decide +kernel⟩
abbrev N_NoPoolD_initD : List Str := ["self", "at"]
theorem sc_NoPoolD_initD : FnScope N_NoPoolD_initD ["self", "at"] (defScope s_NoPoolD_initD) := ⟨rfl, rfl, rfl, by decide +kernel, rfl, by decide +kernel, by decide +kernel⟩
abbrev N_PoolD_initD : List Str := ["self", "stretches"]
theorem sc_PoolD_initD : FnScope N_PoolD_initD ["self", "stretches"] (defScope s_PoolD_initD) := ⟨rfl, rfl, rfl, by decide +kernel, rfl, by decide +kernel, by decide +kernel⟩
abbrev N_Pool_stretches : List Str := ["self"]
theorem sc_Pool_stretches : FnScope N_Pool_stretches ["self"] (defScope s_Pool_stretches) := ⟨rfl, rfl, rfl, by decide +kernel, rfl, by decide +kernel, by decide +kernel⟩
abbrev N_Pool_has : List Str := ["self", "number", "low", "high"]
theorem sc_Pool_has : FnScope N_Pool_has ["self", "number"] (defScope s_Pool_has) := ⟨rfl, rfl, rfl, by decide +kernel, rfl, by decide +kernel, by decide +kernel⟩
abbrev N_PoolD_eqD : List Str := ["self", "other"]
theorem sc_PoolD_eqD : FnScope N_PoolD_eqD ["self", "other"] (defScope s_PoolD_eqD) := ⟨rfl, rfl, rfl, by decide +kernel, rfl, by decide +kernel, by decide +kernel⟩
abbrev N_PoolD_lenD : List Str := ["self", "low", "high"]
theorem sc_PoolD_lenD : FnScope N_PoolD_lenD ["self"] (defScope s_PoolD_lenD) := ⟨rfl, rfl, rfl, by decide +kernel, rfl, by decide +kernel, by decide +kernel⟩
abbrev N_PoolD_strD : List Str := ["self", "low", "high"]
theorem sc_PoolD_strD : FnScope N_PoolD_strD ["self"] (defScope s_PoolD_strD) := ⟨rfl, rfl, rfl, by decide +kernel, rfl, by decide +kernel, by decide +kernel⟩
abbrev N_PoolD_reprD : List Str := ["self"]
theorem sc_PoolD_reprD : FnScope N_PoolD_reprD ["self"] (defScope s_PoolD_reprD) := ⟨rfl, rfl, rfl, by decide +kernel, rfl, by decide +kernel, by decide +kernel⟩
abbrev N_refuse_wrong_stretches : List Str := ["thing", "at", "pair"]
theorem sc_refuse_wrong_stretches : FnScope N_refuse_wrong_stretches ["thing"] (defScope s_refuse_wrong_stretches) := ⟨rfl, rfl, rfl, by decide +kernel, rfl, by decide +kernel, by decide +kernel⟩
abbrev N_is_stretch : List Str := ["thing", "low", "high"]
theorem sc_is_stretch : FnScope N_is_stretch ["thing"] (defScope s_is_stretch) := ⟨rfl, rfl, rfl, by decide +kernel, rfl, by decide +kernel, by decide +kernel⟩
abbrev N_fewest : List Str := ["pairs", "found", "low", "high"]
theorem sc_fewest : FnScope N_fewest ["pairs"] (defScope s_fewest) := ⟨rfl, rfl, rfl, by decide +kernel, rfl, by decide +kernel, by decide +kernel⟩
abbrev N_stretch_text : List Str := ["low", "high"]
theorem sc_stretch_text : FnScope N_stretch_text ["low", "high"] (defScope s_stretch_text) := ⟨rfl, rfl, rfl, by decide +kernel, rfl, by decide +kernel, by decide +kernel⟩
abbrev N_l_bag : List Str := ["_law_script", "_law_at", "_law_cell"]
theorem sc_l_bag : FnScope N_l_bag ["_law_script", "_law_at"] (defScope s_l_bag) := ⟨rfl, rfl, rfl, by decide +kernel, rfl, by decide +kernel, by decide +kernel⟩
abbrev N_l_take : List Str := ["_law_bag_here", "_law_many", "_law_digit", "_law_primes", "_law_step", "_law_base", "_law_here"]
theorem sc_l_take : FnScope N_l_take ["_law_bag_here", "_law_many"] (defScope s_l_take) := ⟨rfl, rfl, rfl, by decide +kernel, rfl, by decide +kernel, by decide +kernel⟩
abbrev N_l_has : List Str := ["_law_rows", "_law_number", "_law_begin", "_law_end"]
theorem sc_l_has : FnScope N_l_has ["_law_rows", "_law_number"] (defScope s_l_has) := ⟨rfl, rfl, rfl, by decide +kernel, rfl, by decide +kernel, by decide +kernel⟩
abbrev N_l_fewest : List Str := ["_law_rows", "_law_lows", "_law_highs", "_law_begin", "_law_end"]
theorem sc_l_fewest : FnScope N_l_fewest ["_law_rows"] (defScope s_l_fewest) := ⟨rfl, rfl, rfl, by decide +kernel, rfl, by decide +kernel, by decide +kernel⟩
abbrev N_l_stretches : List Str := ["_law_bag_here", "_law_most", "_law_wide", "_law_long", "_law_found", "_law_turn", "_law_begin"]
theorem sc_l_stretches : FnScope N_l_stretches ["_law_bag_here", "_law_most"] (defScope s_l_stretches) := ⟨rfl, rfl, rfl, by decide +kernel, rfl, by decide +kernel, by decide +kernel⟩
abbrev N_l_same : List Str := ["_law_here", "_law_there", "_law_a", "_law_b"]
theorem sc_l_same : FnScope N_l_same ["_law_here", "_law_there"] (defScope s_l_same) := ⟨rfl, rfl, rfl, by decide +kernel, rfl, by decide +kernel, by decide +kernel⟩
abbrev N_l_whole : List Str := ["_law_thing"]
theorem sc_l_whole : FnScope N_l_whole ["_law_thing"] (defScope s_l_whole) := ⟨rfl, rfl, rfl, by decide +kernel, rfl, by decide +kernel, by decide +kernel⟩
abbrev N_l_right : List Str := ["_law_rows", "_law_pool", "_law_due", "_law_many", "_law_begin", "_law_end", "_law_number", "_law_told"]
theorem sc_l_right : FnScope N_l_right ["_law_rows", "_law_pool"] (defScope s_l_right) := ⟨rfl, rfl, rfl, by decide +kernel, rfl, by decide +kernel, by decide +kernel⟩
abbrev N_l_alike : List Str := ["_law_pool", "_law_rows", "_law_shortest", "_law_free", "_law_number"]
theorem sc_l_alike : FnScope N_l_alike ["_law_pool", "_law_rows"] (defScope s_l_alike) := ⟨rfl, rfl, rfl, by decide +kernel, rfl, by decide +kernel, by decide +kernel⟩
abbrev N_law : List Str := ["_law_script", "_law_at", "_law_bag_here", "_law_rows", "_law_pool", "_law_turn", "_law_other", "_law_second"]
theorem sc_law : FnScope N_law ["_law_script"] (defScope s_law) := ⟨rfl, rfl, rfl, by decide +kernel, rfl, by decide +kernel, by decide +kernel⟩
def d_is_whole : He.DefD := ⟨("is_whole", none), "is_whole", "is_whole", defArgs s_is_whole, defBody s_is_whole, defScope s_is_whole, [], []⟩
def d_is_whole_within : He.DefD := ⟨("is_whole_within", none), "is_whole_within", "is_whole_within", defArgs s_is_whole_within, defBody s_is_whole_within, defScope s_is_whole_within, [], []⟩
def d_is_number : He.DefD := ⟨("is_number", none), "is_number", "is_number", defArgs s_is_number, defBody s_is_number, defScope s_is_number, [], []⟩
def d_NoPoolD_initD : He.DefD := ⟨("NoPool", some "__init__"), "__init__", "NoPool.__init__", defArgs s_NoPoolD_initD, defBody s_NoPoolD_initD, defScope s_NoPoolD_initD, [], []⟩
def d_PoolD_initD : He.DefD := ⟨("Pool", some "__init__"), "__init__", "Pool.__init__", defArgs s_PoolD_initD, defBody s_PoolD_initD, defScope s_PoolD_initD, [.adr (He.dflAt ("Pool", some "__init__") 0)], []⟩
def d_Pool_stretches : He.DefD := ⟨("Pool", some "stretches"), "stretches", "Pool.stretches", defArgs s_Pool_stretches, defBody s_Pool_stretches, defScope s_Pool_stretches, [], []⟩
def d_Pool_has : He.DefD := ⟨("Pool", some "has"), "has", "Pool.has", defArgs s_Pool_has, defBody s_Pool_has, defScope s_Pool_has, [], []⟩
def d_PoolD_eqD : He.DefD := ⟨("Pool", some "__eq__"), "__eq__", "Pool.__eq__", defArgs s_PoolD_eqD, defBody s_PoolD_eqD, defScope s_PoolD_eqD, [], []⟩
def d_PoolD_lenD : He.DefD := ⟨("Pool", some "__len__"), "__len__", "Pool.__len__", defArgs s_PoolD_lenD, defBody s_PoolD_lenD, defScope s_PoolD_lenD, [], []⟩
def d_PoolD_strD : He.DefD := ⟨("Pool", some "__str__"), "__str__", "Pool.__str__", defArgs s_PoolD_strD, defBody s_PoolD_strD, defScope s_PoolD_strD, [], []⟩
def d_PoolD_reprD : He.DefD := ⟨("Pool", some "__repr__"), "__repr__", "Pool.__repr__", defArgs s_PoolD_reprD, defBody s_PoolD_reprD, defScope s_PoolD_reprD, [], []⟩
def d_refuse_wrong_stretches : He.DefD := ⟨("refuse_wrong_stretches", none), "refuse_wrong_stretches", "refuse_wrong_stretches", defArgs s_refuse_wrong_stretches, defBody s_refuse_wrong_stretches, defScope s_refuse_wrong_stretches, [], []⟩
def d_is_stretch : He.DefD := ⟨("is_stretch", none), "is_stretch", "is_stretch", defArgs s_is_stretch, defBody s_is_stretch, defScope s_is_stretch, [], []⟩
def d_fewest : He.DefD := ⟨("fewest", none), "fewest", "fewest", defArgs s_fewest, defBody s_fewest, defScope s_fewest, [], []⟩
def d_stretch_text : He.DefD := ⟨("stretch_text", none), "stretch_text", "stretch_text", defArgs s_stretch_text, defBody s_stretch_text, defScope s_stretch_text, [], []⟩
def d_l_bag : He.DefD := ⟨("_law_bag", none), "_law_bag", "_law_bag", defArgs s_l_bag, defBody s_l_bag, defScope s_l_bag, [], []⟩
def d_l_take : He.DefD := ⟨("_law_take", none), "_law_take", "_law_take", defArgs s_l_take, defBody s_l_take, defScope s_l_take, [], []⟩
def d_l_has : He.DefD := ⟨("_law_has", none), "_law_has", "_law_has", defArgs s_l_has, defBody s_l_has, defScope s_l_has, [], []⟩
def d_l_fewest : He.DefD := ⟨("_law_fewest", none), "_law_fewest", "_law_fewest", defArgs s_l_fewest, defBody s_l_fewest, defScope s_l_fewest, [], []⟩
def d_l_stretches : He.DefD := ⟨("_law_stretches", none), "_law_stretches", "_law_stretches", defArgs s_l_stretches, defBody s_l_stretches, defScope s_l_stretches, [], []⟩
def d_l_same : He.DefD := ⟨("_law_same", none), "_law_same", "_law_same", defArgs s_l_same, defBody s_l_same, defScope s_l_same, [], []⟩
def d_l_whole : He.DefD := ⟨("_law_whole", none), "_law_whole", "_law_whole", defArgs s_l_whole, defBody s_l_whole, defScope s_l_whole, [], []⟩
def d_l_right : He.DefD := ⟨("_law_right", none), "_law_right", "_law_right", defArgs s_l_right, defBody s_l_right, defScope s_l_right, [], []⟩
def d_l_alike : He.DefD := ⟨("_law_alike", none), "_law_alike", "_law_alike", defArgs s_l_alike, defBody s_l_alike, defScope s_l_alike, [], []⟩
def d_law : He.DefD := ⟨("law", none), "law", "law", defArgs s_law, defBody s_law, defScope s_law, [], []⟩
def fn : List He.DefD := [d_is_whole, d_is_whole_within, d_is_number, d_NoPoolD_initD, d_PoolD_initD, d_Pool_stretches, d_Pool_has, d_PoolD_eqD, d_PoolD_lenD, d_PoolD_strD, d_PoolD_reprD, d_refuse_wrong_stretches, d_is_stretch, d_fewest, d_stretch_text, d_l_bag, d_l_take, d_l_has, d_l_fewest, d_l_stretches, d_l_same, d_l_whole, d_l_right, d_l_alike, d_law]
def fa : List He.Fa := [.int "TOP_NUMBER" 999999, .glo "is_whole", .glo "is_whole_within", .glo "is_number", .glo "NoPool", .int "MOST_STRETCHES" 20, .glo "Pool", .glo "refuse_wrong_stretches", .glo "is_stretch", .glo "fewest", .glo "stretch_text", .glo "_law_bag", .glo "_law_take", .glo "_law_has", .glo "_law_fewest", .glo "_law_stretches", .glo "_law_same", .glo "_law_whole", .glo "_law_right", .glo "_law_alike", .glo "law", .free "ValueError", .free "enumerate", .free "sorted", .free "tuple", .free "any", .free "range", .free "sum", .free "isinstance", .free "int", .free "len", .free "str", .free "set", .free "list", .free "max", .free "bool", .free "abs", .free "min", .free "all", .free "zip", .free "repr", .cls "Pool", .noat "Pool" "pairs", .mkr "Pool", .meth "Pool" "stretches", .meth "Pool" "has", .meth "Pool" "__eq__", .meth "Pool" "__len__", .meth "Pool" "__str__", .meth "Pool" "__repr__"]
def ex : PySem.W.Frag → Bool := fun K => tupA K (He.dflAt ("Pool", some "__init__") 0 K) [] && ownB K (He.ga K "Pool") ["tuple", "str", "NoneType", "int"]
abbrev Zc (K : PySem.W.Frag) (mg : Str → Option Value) : Prop := Ctx fa fn ex K mg
theorem F_is_whole {K : PySem.W.Frag} {mg : Str → Option Value} (Z : Zc K mg) : ∃ fd, FunD K "is_whole" "is_whole" (defArgs s_is_whole) (defBody s_is_whole) (defScope s_is_whole) [] [] (He.ga K "is_whole") fd := Z.says.d.def_ 0 (d := d_is_whole) rfl
theorem F_is_whole_within {K : PySem.W.Frag} {mg : Str → Option Value} (Z : Zc K mg) : ∃ fd, FunD K "is_whole_within" "is_whole_within" (defArgs s_is_whole_within) (defBody s_is_whole_within) (defScope s_is_whole_within) [] [] (He.ga K "is_whole_within") fd := Z.says.d.def_ 1 (d := d_is_whole_within) rfl
theorem F_is_number {K : PySem.W.Frag} {mg : Str → Option Value} (Z : Zc K mg) : ∃ fd, FunD K "is_number" "is_number" (defArgs s_is_number) (defBody s_is_number) (defScope s_is_number) [] [] (He.ga K "is_number") fd := Z.says.d.def_ 2 (d := d_is_number) rfl
theorem F_NoPoolD_initD {K : PySem.W.Frag} {mg : Str → Option Value} (Z : Zc K mg) : ∃ fd, FunD K "__init__" "NoPool.__init__" (defArgs s_NoPoolD_initD) (defBody s_NoPoolD_initD) (defScope s_NoPoolD_initD) [] [] (He.ma K (He.ga K "NoPool") "__init__") fd := Z.says.d.def_ 3 (d := d_NoPoolD_initD) rfl
theorem F_PoolD_initD {K : PySem.W.Frag} {mg : Str → Option Value} (Z : Zc K mg) : ∃ fd, FunD K "__init__" "Pool.__init__" (defArgs s_PoolD_initD) (defBody s_PoolD_initD) (defScope s_PoolD_initD) [He.Dv.v K (.adr (He.dflAt ("Pool", some "__init__") 0))] [] (He.ma K (He.ga K "Pool") "__init__") fd := Z.says.d.def_ 4 (d := d_PoolD_initD) rfl
theorem F_Pool_stretches {K : PySem.W.Frag} {mg : Str → Option Value} (Z : Zc K mg) : ∃ fd, FunD K "stretches" "Pool.stretches" (defArgs s_Pool_stretches) (defBody s_Pool_stretches) (defScope s_Pool_stretches) [] [] (He.ma K (He.ga K "Pool") "stretches") fd := Z.says.d.def_ 5 (d := d_Pool_stretches) rfl
theorem F_Pool_has {K : PySem.W.Frag} {mg : Str → Option Value} (Z : Zc K mg) : ∃ fd, FunD K "has" "Pool.has" (defArgs s_Pool_has) (defBody s_Pool_has) (defScope s_Pool_has) [] [] (He.ma K (He.ga K "Pool") "has") fd := Z.says.d.def_ 6 (d := d_Pool_has) rfl
theorem F_PoolD_eqD {K : PySem.W.Frag} {mg : Str → Option Value} (Z : Zc K mg) : ∃ fd, FunD K "__eq__" "Pool.__eq__" (defArgs s_PoolD_eqD) (defBody s_PoolD_eqD) (defScope s_PoolD_eqD) [] [] (He.ma K (He.ga K "Pool") "__eq__") fd := Z.says.d.def_ 7 (d := d_PoolD_eqD) rfl
theorem F_PoolD_lenD {K : PySem.W.Frag} {mg : Str → Option Value} (Z : Zc K mg) : ∃ fd, FunD K "__len__" "Pool.__len__" (defArgs s_PoolD_lenD) (defBody s_PoolD_lenD) (defScope s_PoolD_lenD) [] [] (He.ma K (He.ga K "Pool") "__len__") fd := Z.says.d.def_ 8 (d := d_PoolD_lenD) rfl
theorem F_PoolD_strD {K : PySem.W.Frag} {mg : Str → Option Value} (Z : Zc K mg) : ∃ fd, FunD K "__str__" "Pool.__str__" (defArgs s_PoolD_strD) (defBody s_PoolD_strD) (defScope s_PoolD_strD) [] [] (He.ma K (He.ga K "Pool") "__str__") fd := Z.says.d.def_ 9 (d := d_PoolD_strD) rfl
theorem F_PoolD_reprD {K : PySem.W.Frag} {mg : Str → Option Value} (Z : Zc K mg) : ∃ fd, FunD K "__repr__" "Pool.__repr__" (defArgs s_PoolD_reprD) (defBody s_PoolD_reprD) (defScope s_PoolD_reprD) [] [] (He.ma K (He.ga K "Pool") "__repr__") fd := Z.says.d.def_ 10 (d := d_PoolD_reprD) rfl
theorem F_refuse_wrong_stretches {K : PySem.W.Frag} {mg : Str → Option Value} (Z : Zc K mg) : ∃ fd, FunD K "refuse_wrong_stretches" "refuse_wrong_stretches" (defArgs s_refuse_wrong_stretches) (defBody s_refuse_wrong_stretches) (defScope s_refuse_wrong_stretches) [] [] (He.ga K "refuse_wrong_stretches") fd := Z.says.d.def_ 11 (d := d_refuse_wrong_stretches) rfl
theorem F_is_stretch {K : PySem.W.Frag} {mg : Str → Option Value} (Z : Zc K mg) : ∃ fd, FunD K "is_stretch" "is_stretch" (defArgs s_is_stretch) (defBody s_is_stretch) (defScope s_is_stretch) [] [] (He.ga K "is_stretch") fd := Z.says.d.def_ 12 (d := d_is_stretch) rfl
theorem F_fewest {K : PySem.W.Frag} {mg : Str → Option Value} (Z : Zc K mg) : ∃ fd, FunD K "fewest" "fewest" (defArgs s_fewest) (defBody s_fewest) (defScope s_fewest) [] [] (He.ga K "fewest") fd := Z.says.d.def_ 13 (d := d_fewest) rfl
theorem F_stretch_text {K : PySem.W.Frag} {mg : Str → Option Value} (Z : Zc K mg) : ∃ fd, FunD K "stretch_text" "stretch_text" (defArgs s_stretch_text) (defBody s_stretch_text) (defScope s_stretch_text) [] [] (He.ga K "stretch_text") fd := Z.says.d.def_ 14 (d := d_stretch_text) rfl
theorem F_l_bag {K : PySem.W.Frag} {mg : Str → Option Value} (Z : Zc K mg) : ∃ fd, FunD K "_law_bag" "_law_bag" (defArgs s_l_bag) (defBody s_l_bag) (defScope s_l_bag) [] [] (He.ga K "_law_bag") fd := Z.says.d.def_ 15 (d := d_l_bag) rfl
theorem F_l_take {K : PySem.W.Frag} {mg : Str → Option Value} (Z : Zc K mg) : ∃ fd, FunD K "_law_take" "_law_take" (defArgs s_l_take) (defBody s_l_take) (defScope s_l_take) [] [] (He.ga K "_law_take") fd := Z.says.d.def_ 16 (d := d_l_take) rfl
theorem F_l_has {K : PySem.W.Frag} {mg : Str → Option Value} (Z : Zc K mg) : ∃ fd, FunD K "_law_has" "_law_has" (defArgs s_l_has) (defBody s_l_has) (defScope s_l_has) [] [] (He.ga K "_law_has") fd := Z.says.d.def_ 17 (d := d_l_has) rfl
theorem F_l_fewest {K : PySem.W.Frag} {mg : Str → Option Value} (Z : Zc K mg) : ∃ fd, FunD K "_law_fewest" "_law_fewest" (defArgs s_l_fewest) (defBody s_l_fewest) (defScope s_l_fewest) [] [] (He.ga K "_law_fewest") fd := Z.says.d.def_ 18 (d := d_l_fewest) rfl
theorem F_l_stretches {K : PySem.W.Frag} {mg : Str → Option Value} (Z : Zc K mg) : ∃ fd, FunD K "_law_stretches" "_law_stretches" (defArgs s_l_stretches) (defBody s_l_stretches) (defScope s_l_stretches) [] [] (He.ga K "_law_stretches") fd := Z.says.d.def_ 19 (d := d_l_stretches) rfl
theorem F_l_same {K : PySem.W.Frag} {mg : Str → Option Value} (Z : Zc K mg) : ∃ fd, FunD K "_law_same" "_law_same" (defArgs s_l_same) (defBody s_l_same) (defScope s_l_same) [] [] (He.ga K "_law_same") fd := Z.says.d.def_ 20 (d := d_l_same) rfl
theorem F_l_whole {K : PySem.W.Frag} {mg : Str → Option Value} (Z : Zc K mg) : ∃ fd, FunD K "_law_whole" "_law_whole" (defArgs s_l_whole) (defBody s_l_whole) (defScope s_l_whole) [] [] (He.ga K "_law_whole") fd := Z.says.d.def_ 21 (d := d_l_whole) rfl
theorem F_l_right {K : PySem.W.Frag} {mg : Str → Option Value} (Z : Zc K mg) : ∃ fd, FunD K "_law_right" "_law_right" (defArgs s_l_right) (defBody s_l_right) (defScope s_l_right) [] [] (He.ga K "_law_right") fd := Z.says.d.def_ 22 (d := d_l_right) rfl
theorem F_l_alike {K : PySem.W.Frag} {mg : Str → Option Value} (Z : Zc K mg) : ∃ fd, FunD K "_law_alike" "_law_alike" (defArgs s_l_alike) (defBody s_l_alike) (defScope s_l_alike) [] [] (He.ga K "_law_alike") fd := Z.says.d.def_ 23 (d := d_l_alike) rfl
theorem F_law {K : PySem.W.Frag} {mg : Str → Option Value} (Z : Zc K mg) : ∃ fd, FunD K "law" "law" (defArgs s_law) (defBody s_law) (defScope s_law) [] [] (He.ga K "law") fd := Z.says.d.def_ 24 (d := d_law) rfl
/-! ### the bag: what the law draws its numbers from -/
/-- a bag at b that has been asked at most n times -/
def Bag (H : Hp) (b : Addr) (n : Nat) : Prop := ∃ z x c : Int, H b = some (.lst [.int z, .int x, .int c]) ∧ 0 ≤ z ∧ 0 ≤ x ∧ x ≤ 1100000000000000000 ∧ 0 ≤ c ∧ c ≤ n
theorem Bag.mono {H : Hp} {b : Addr} {n m : Nat} (h : Bag H b n) (k : n ≤ m) : Bag H b m := by
  obtain ⟨z, x, c, e, a1, a2, a3, a4, a5⟩ := h
  exact ⟨z, x, c, e, a1, a2, a3, a4, by omega⟩
theorem Bag.same {H H' : Hp} {b : Addr} {n : Nat} (h : Bag H b n) (k : Same H H') : Bag H' b n := by
  obtain ⟨z, x, c, e, a⟩ := h
  exact ⟨z, x, c, k _ _ e, a⟩
def spTake : Sp := fun vs H Q _ => ∃ (b : Addr) (n : Nat) (m : Int), vs = [.ref b, .int m] ∧ Bag H b n ∧ n ≤ 1000000000 ∧ 0 < m ∧ m ≤ 1000000000000 ∧ ∀ (r : Int) (H' : Hp), 0 ≤ r → r < m → But b H H' → Bag H' b (n + 1) → Q (.int r) H'
theorem primes_at (i : Int) : ∃ p : Int, atI [V.int 2147483647, .int 2147483629, .int 2147483587, .int 2147483579, .int 2147483563, .int 2147483549, .int 2147483543, .int 2147483497] (i % 8) = some (.int p) ∧ 0 < p ∧ p ≤ 2147483647 := by
  have h0 : 0 ≤ i % 8 := Int.emod_nonneg i (by decide)
  have h8 : i % 8 < 8 := Int.emod_lt_of_pos i (by decide)
  generalize i % 8 = j at h0 h8
  have : j = 0 ∨ j = 1 ∨ j = 2 ∨ j = 3 ∨ j = 4 ∨ j = 5 ∨ j = 6 ∨ j = 7 := by omega
  rcases this with rfl | rfl | rfl | rfl | rfl | rfl | rfl | rfl <;> exact ⟨_, rfl, by decide, by decide⟩
theorem base_small {x c : Int} (h1 : 0 ≤ x) (h2 : x ≤ 1100000000000000000) (h3 : 0 ≤ c) (h4 : c ≤ 1000000001) : ((x + 1) * (2 * c + 3) + 6007 * c * c).natAbs < 2 ^ 100 := by
  have e : (2 : Nat) ^ 100 = 1267650600228229401496703205376 := by decide
  have a1 : (x + 1) * (2 * c + 3) ≤ 1100000000000000001 * 2000000005 := Int.mul_le_mul (by omega) (by omega) (by omega) (by decide)
  have a2 : c * c ≤ 1000000001 * 1000000001 := Int.mul_le_mul h4 h4 h3 (by decide)
  have a3 : 0 ≤ (x + 1) * (2 * c + 3) := Int.mul_nonneg (by omega) (by omega)
  have a4 : 0 ≤ c * c := Int.mul_nonneg h3 h3
  rw [Int.mul_assoc, e]
  omega
section
variable {P : Program} {w : World} {K : PySem.W.Frag} {mg : Str → Option Value} {base : Heap}
theorem D_take (Z : Zc K mg) : Dn P w K mg base CX0 "_law_take" 1 ["_law_bag_here", "_law_many"] spTake := by
  obtain ⟨fd, F⟩ := F_l_take Z
  refine ⟨_, fd, Z.glo "_law_take", F.kp, F.bindsN (fun _ _ _ _ _ _ us hl => match us, hl with | [_, _], _ => rfl), F.ok sc_l_take (fun vs H Q E h => ?_) (fun cdv A outer s H vs Q E hr h => ?_)⟩
  · obtain ⟨_, _, _, rfl, _⟩ := h
    rfl
  · obtain ⟨b, n, m, rfl, ⟨z, x, c, hb, hz, hx, hx2, hc, hc2⟩, hn, hm, hm2, k⟩ := h
    have cm : ∀ i : Int, CDivW i m := fun i => wide_div (b := 60) hm (by omega) (by decide) (by decide)
    refine ⟨_, PSs.nox (pss_cons (ps_if (pt_cmpR op_gt (pe_ix ix_list (pv 0) pe_int (fun _ _ => rfl)) pe_int (nomark _)) (pss_cons (ps_set (i := 2) sc_l_take.nd rfl (Or.inl rfl) (pe_op op_mod (pe_ix ix_list (pv 0) pe_int (fun _ _ => rfl)) (pv 1)))
      (pss_cons (ps_asg (pe_op op_fdivW (pe_ix ix_list (pv 0) pe_int (fun _ _ => rfl)) (pv 1)) (pg_sub (pv 0) pe_int set_list))
      (pss_one (ps_ret (pv 2))))) pss_nil)
      (pss_cons (ps_set (i := 3) sc_l_take.nd rfl (Or.inl rfl) (pe_tup (pa_cons pe_int (pa_cons pe_int (pa_cons pe_int (pa_cons pe_int (pa_cons pe_int (pa_cons pe_int (pa_cons pe_int (pa_cons pe_int pa_nil))))))))))
      (pss_cons (ps_asg (pe_op op_add (pe_ix ix_list (pv 0) pe_int (fun _ _ => rfl)) pe_int) (pg_sub (pv 0) pe_int set_list))
      (pss_cons (ps_set (i := 4) sc_l_take.nd rfl (Or.inl rfl) (pe_ix ix_list (pv 0) pe_int (fun _ _ => rfl)))
      (pss_cons (ps_set (i := 5) sc_l_take.nd rfl (Or.inl rfl) (pe_op op_add (pe_op op_mul (pe_op op_add (pe_ix ix_list (pv 0) pe_int (fun _ _ => rfl)) pe_int) (pe_op op_add (pe_op op_mul pe_int (pv 4)) pe_int)) (pe_op op_mul (pe_op op_mul pe_int (pv 4)) (pv 4))))
      (pss_cons (ps_set (i := 6) sc_l_take.nd rfl (Or.inl rfl) (pe_op op_mod (pe_op op_powW (pv 5) pe_int) (pe_ix ix_tup (pv 3) (pe_op op_mod (pv 4) pe_int) (fun _ _ => rfl))))
      (pss_one (ps_ret (pe_op op_mod (pe_op op_fdivW (pe_op op_mod (pe_op op_mul (pv 6) (pe_op op_add (pe_op op_fdivW (pv 6) pe_int) pe_int)) (pe_ix ix_tup (pv 3) (pe_op op_mod (pe_op op_add (pv 4) pe_int) pe_int) (fun _ _ => rfl))) pe_int) (pv 1)))))))))), ?_⟩
    refine ⟨_, rfl, b, _, _, _, rfl, rfl, SqL.of hb, rfl, _, _, rfl, rfl, _, rfl, ?_⟩
    refine ite2 (fun q => ?_) (fun q => ?_)
    · -- a great cell is taken digit by digit
      refine ⟨_, rfl, b, _, _, _, rfl, rfl, SqL.of hb, rfl, _, rfl, _, _, rfl, rfl, hm, ?_⟩
      refine ⟨_, rfl, b, _, _, _, rfl, rfl, SqL.of hb, rfl, _, rfl, _, _, rfl, rfl, cm z, ?_⟩
      refine ⟨_, rfl, b, _, _, _, rfl, rfl, hb, rfl, _, rfl, ?_⟩
      exact k _ _ (Int.emod_nonneg z (by omega)) (Int.emod_lt_of_pos z hm) (But.upd _ _ _) ⟨z / m, x, c, upd_same, Int.ediv_nonneg hz (by omega), hx, hx2, hc, by omega⟩
    · refine ⟨(by decide), fun t ht => ?_⟩
      have nb : b ≠ t := ne_of_none hb ht
      have hb1 := (upd_ne (o := .tup [V.int 2147483647, .int 2147483629, .int 2147483587, .int 2147483579, .int 2147483563, .int 2147483549, .int 2147483543, .int 2147483497]) nb).trans hb
      refine ⟨_, rfl, b, _, _, _, rfl, rfl, SqL.of hb1, rfl, _, _, rfl, rfl, ?_⟩
      refine ⟨_, rfl, b, _, _, _, rfl, rfl, hb1, rfl, ?_⟩
      refine ⟨_, rfl, b, _, _, _, rfl, rfl, SqL.of upd_same, rfl, ?_⟩
      refine ⟨_, rfl, b, _, _, _, rfl, rfl, SqL.of upd_same, rfl, _, _, rfl, rfl, _, rfl, _, _, rfl, rfl, .inl ⟨by decide, by decide⟩, _, _, rfl, rfl, _, _, rfl, rfl, .inl ⟨by omega, by omega⟩, _, rfl, _, _, rfl, rfl, .inl ⟨by decide, by decide⟩, _, rfl, _, _, rfl, rfl, .inl ⟨by omega, by omega⟩, _, _, rfl, rfl, ?_⟩
      have ht1 : (upd (upd H t (.tup [V.int 2147483647, .int 2147483629, .int 2147483587, .int 2147483579, .int 2147483563, .int 2147483549, .int 2147483543, .int 2147483497])) b (.lst ([V.int z, V.int x, V.int c].set 2 (.int (c + 1))))) t = some (.tup _) := (upd_ne nb.symm).trans upd_same
      obtain ⟨p1, e1, p2, p3⟩ := primes_at (c + 1)
      obtain ⟨q1, e2, q2, q3⟩ := primes_at (c + 1 + 3)
      have small := base_small hx hx2 (show 0 ≤ c + 1 by omega) (by omega)
      refine ⟨_, rfl, _, _, rfl, rfl, powW_of small (by decide) (by decide), _, rfl, _, rfl, _, _, rfl, rfl, (show (0 : Int) < 8 by decide), t, _, _, _, rfl, rfl, SqT.of ht1, e1, _, _, rfl, rfl, p2, ?_⟩
      have r0 := Int.emod_nonneg (((x + 1) * (2 * (c + 1) + 3) + 6007 * (c + 1) * (c + 1)) ^ (3 : Int).toNat) (show p1 ≠ 0 by omega)
      have r1 := Int.emod_lt_of_pos (((x + 1) * (2 * (c + 1) + 3) + 6007 * (c + 1) * (c + 1)) ^ (3 : Int).toNat) p2
      refine ⟨_, rfl, _, rfl, _, _, rfl, rfl, ⟨by decide, by decide⟩, _, _, rfl, rfl, _, _, rfl, rfl, .inl ⟨by omega, by omega⟩, _, rfl, _, rfl, _, _, rfl, rfl, _, _, rfl, rfl, (show (0 : Int) < 8 by decide), t, _, _, _, rfl, rfl, SqT.of ht1, e2, _, _, rfl, rfl, q2, _, _, rfl, rfl, ⟨by decide, by decide⟩, _, rfl, _, _, rfl, rfl, hm, ?_⟩
      exact k _ _ (Int.emod_nonneg _ (by omega)) (Int.emod_lt_of_pos _ hm) (fun a o na e => by rw [upd_ne na, upd_ne (ne_of_none e ht)]; exact e) ⟨z, x, c + 1, upd_same, hz, hx, hx2, by omega, by omega⟩
end

theorem b01 (k : Bool) : (0 : Int) ≤ (if k = true then 1 else 0) ∧ (if k = true then (1 : Int) else 0) ≤ 1 := by cases k <;> decide
def spBag (K : PySem.W.Frag) : Sp := fun vs H Q _ => ∃ (a : Addr) (ns : List Int) (i : Nat), vs = [.ref a, .int i] ∧ SqL K H a (ns.map V.int) ∧ i ≤ 100 ∧ ∀ (b : Addr) (H' : Hp), H b = none → Same H H' → Bag H' b 0 → Q (.ref b) H'
section
variable {P : Program} {w : World} {K : PySem.W.Frag} {mg : Str → Option Value} {base : Heap}
theorem D_bag (Z : Zc K mg) : Dn P w K mg base CX0 "_law_bag" 1 ["_law_script", "_law_at"] (spBag K) := by
  obtain ⟨fd, F⟩ := F_l_bag Z
  refine ⟨_, fd, Z.glo "_law_bag", F.kp, F.bindsN (fun _ _ _ _ _ _ us hl => match us, hl with | [_, _], _ => rfl), F.ok sc_l_bag (fun vs H Q E h => ?_) (fun cdv A outer s H vs Q E hr h => ?_)⟩
  · obtain ⟨_, _, _, rfl, _⟩ := h
    rfl
  · obtain ⟨a, ns, i, rfl, hs, hi, k⟩ := h
    refine ⟨_, PSs.nox (pss_cons (ps_set (i := 2) sc_l_bag.nd rfl (Or.inl rfl) (pe_op op_add (pe_op op_mul pe_int (pv 1)) pe_int))
      (pss_cons (ps_if (pt_cmpR op_lt (pv 1) (pe_callB call_len_seq (by rfl) (Z.free "len") (by decide +kernel) (pa_cons (pv 0) pa_nil)) (nomark _)) (pss_one (ps_set (i := 2) sc_l_bag.nd rfl (Or.inl rfl) (pe_ix ix_list (pv 0) (pv 1) (fun _ _ => rfl)))) pss_nil)
      (pss_one (ps_ret (pe_lst (pa_cons (pe_op op_mul (pe_callB call_abs (by rfl) (Z.free "abs") (by decide +kernel) (pa_cons (pv 2) pa_nil)) (pe_callTy call_int1 (by rfl) (Z.free "int") (by decide +kernel) (pa_cons (pe_cmpR op_ge (pe_callB call_abs (by rfl) (Z.free "abs") (by decide +kernel) (pa_cons (pv 2) pa_nil)) (pe_op op_powW pe_int pe_int) (nomark _)) pa_nil))) (pa_cons (pe_op op_add (pe_op op_mod (pv 2) pe_int) (pe_op op_mul pe_int (pv 1))) (pa_cons pe_int pa_nil)))))))), ?_⟩
    refine ⟨_, rfl, _, _, rfl, rfl, .inl ⟨by decide, by decide⟩, _, _, rfl, rfl, ?_⟩
    refine ⟨_, rfl, _, rfl, a, _, rfl, .inl hs, _, _, rfl, rfl, _, rfl, ?_⟩
    have fin : ∀ y : Int, ∀ σ : L2.St, σ = [some (.ref a), some (.int (i : Int)), some (.int y)] →
        tRet (tLst (tCons (tOp (rI CMul fun i j => .int (i * j)) (tCB (fun xs H Q => ∃ i, xs = [.int i] ∧ Q (.int (if i < 0 then -i else i)) H) (tCons (tVar 2) tNil)) (tCB (fun xs H Q => (∃ i, xs = [.int i] ∧ Q (.int i) H) ∨ ∃ k, xs = [.bl k] ∧ Q (.int (if k then 1 else 0)) H) (tCons (tOp (rI0 fun i j => .bl (decide (j ≤ i))) (tCB (fun xs H Q => ∃ i, xs = [.int i] ∧ Q (.int (if i < 0 then -i else i)) H) (tCons (tVar 2) tNil)) (tOp (rI CPowW fun i j => .int (i ^ j.toNat)) (tC (.int 10)) (tC (.int 18)))) tNil)))
          (tCons (tOp (rI0 fun i j => .int (i + j)) (tOp (rI (fun _ j => 0 < j) fun i j => .int (i % j)) (tVar 2) (tC (.int 1000000000000000003))) (tOp (rI CMul fun i j => .int (i * j)) (tC (.int 40009)) (tVar 1))) (tCons (tC (.int 0)) tNil)))) { nx := fun _ H' => Q .non H', rt := Q } σ H := by
      rintro y σ rfl
      refine ⟨_, rfl, _, rfl, _, rfl, _, rfl, _, _, rfl, rfl, ⟨by decide, by decide⟩, _, _, rfl, rfl, .inr ⟨_, rfl, _, _, rfl, rfl, .inr ⟨?_, ?_⟩, ?_⟩⟩
      · exact Int.lt_of_lt_of_le (by decide) (b01 _).1
      · exact Int.lt_of_le_of_lt (b01 _).2 (by decide)
      · refine ⟨_, rfl, _, _, rfl, rfl, (show (0 : Int) < 1000000000000000003 by decide), _, rfl, _, _, rfl, rfl, .inl ⟨by decide, by decide⟩, _, _, rfl, rfl, (show 3 ≤ sizeLine by decide), fun b hb => ?_⟩
        refine k b _ hb (Same.new (Same.refl H) hb) ⟨_, _, _, upd_same, ?_, ?_, ?_, by decide, by decide⟩
        · refine Int.mul_nonneg ?_ ?_
          · split <;> omega
          · exact (b01 _).1
        · have := Int.emod_nonneg y (show (1000000000000000003 : Int) ≠ 0 by decide)
          omega
        · have := Int.emod_lt_of_pos y (show (0 : Int) < 1000000000000000003 by decide)
          omega
    refine ite2 (fun q => ?_) (fun q => ?_)
    · have hi2 : i < ns.length := by
        have q2 := of_decide_eq_true q
        rw [List.length_map] at q2
        omega
      refine ⟨_, rfl, _, rfl, a, _, _, _, rfl, rfl, hs, atI_cell hi2, ?_⟩
      exact fin _ _ rfl
    · exact fin _ _ rfl
end

/-! ### pairs of ints, tuples of them -/
def Pr (H : Hp) (v : V) (p : Int × Int) : Prop := ∃ t, v = .ref t ∧ H t = some (.tup [.int p.1, .int p.2])
theorem Pr.same {H H' : Hp} {v : V} {p : Int × Int} (h : Pr H v p) (s : Same H H') : Pr H' v p := let ⟨t, e, q⟩ := h; ⟨t, e, s _ _ q⟩
theorem Pr.but {H H' : Hp} {v : V} {p : Int × Int} {b : Addr} {l : List V} (h : Pr H v p) (hb : H b = some (.lst l)) (s : But b H H') : Pr H' v p := let ⟨t, e, q⟩ := h; ⟨t, e, s _ _ (ne_of q hb (by intro z; cases z)) q⟩
abbrev Prs (H : Hp) : List V → List (Int × Int) → Prop := Paired (Pr H)
theorem Prs.imp {H H' : Hp} (h : ∀ v p, Pr H v p → Pr H' v p) : ∀ {xs : List V} {ps : List (Int × Int)}, Prs H xs ps → Prs H' xs ps
  | _, _, .nil => .nil
  | _, _, .cons a b => .cons (h _ _ a) (Prs.imp h b)
theorem Prs.len {H : Hp} : ∀ {xs : List V} {ps : List (Int × Int)}, Prs H xs ps → xs.length = ps.length
  | _, _, .nil => rfl
  | _, _, .cons _ b => congrArg Nat.succ (Prs.len b)
theorem Prs.get {H : Hp} : ∀ {xs : List V} {ps : List (Int × Int)} {i : Nat} {x : V}, Prs H xs ps → xs[i]? = some x → ∃ p, ps[i]? = some p ∧ Pr H x p
  | _, _, _, _, .nil, e => by simp at e
  | _, _, 0, _, .cons a _, e => by simp at e; subst e; exact ⟨_, rfl, a⟩
  | _, _, i + 1, x, .cons _ t, e => by
    obtain ⟨p, h1, h2⟩ := Prs.get (i := i) (x := x) t (by simpa using e)
    exact ⟨p, by simpa using h1, h2⟩
theorem Prs.app {H : Hp} : ∀ {xs ys : List V} {ps qs : List (Int × Int)}, Prs H xs ps → Prs H ys qs → Prs H (xs ++ ys) (ps ++ qs)
  | _, _, _, _, .nil, b => b
  | _, _, _, _, .cons x a, b => .cons x (Prs.app a b)
/-- at a: a tuple of the pairs ps -/
def Rows (K : PySem.W.Frag) (H : Hp) (a : Addr) (ps : List (Int × Int)) : Prop := ∃ xs, SqT K H a xs ∧ Prs H xs ps
theorem Rows.same {K : PySem.W.Frag} {H H' : Hp} {a : Addr} {ps : List (Int × Int)} (h : Rows K H a ps) (s : Same H H') : Rows K H' a ps := let ⟨xs, h1, h2⟩ := h; ⟨xs, Same.sqT s h1, Prs.imp (fun _ _ q => q.same s) h2⟩
theorem SqT.but {K : PySem.W.Frag} {H H' : Hp} {a b : Addr} {xs l : List V} (h : SqT K H a xs) (hb : H b = some (.lst l)) (s : But b H H') : SqT K H' a xs := by
  rcases h with (h | ⟨o, h⟩) | h
  · exact .inl (.inl (s _ _ (ne_of h hb (by intro z; cases z)) h))
  · exact .inl (.inr ⟨o, s _ _ (ne_of h hb (by intro z; cases z)) h⟩)
  · exact .inr h
theorem Rows.but {K : PySem.W.Frag} {H H' : Hp} {a b : Addr} {ps : List (Int × Int)} {l : List V} (h : Rows K H a ps) (hb : H b = some (.lst l)) (s : But b H H') : Rows K H' a ps := let ⟨xs, h1, h2⟩ := h; ⟨xs, SqT.but h1 hb s, Prs.imp (fun _ _ q => q.but hb s) h2⟩
theorem Bag.lst {H : Hp} {b : Addr} {n : Nat} (h : Bag H b n) : ∃ l, H b = some (.lst l) := let ⟨_, _, _, e, _⟩ := h; ⟨_, e⟩
/-- n is in the stretch p -/
def inR (p : Int × Int) (n : Int) : Bool := decide (p.1 ≤ n) && decide (n ≤ p.2)
def hasR (ps : List (Int × Int)) (n : Int) : Bool := ps.any fun p => inR p n
theorem map_take_succ {α β : Type} (f : α → β) {l : List α} {i : Nat} {x : α} (h : l[i]? = some x) : (l.take (i + 1)).map f = (l.take i).map f ++ [f x] := by
  rw [List.take_add_one, h]
  simp
def spHas (K : PySem.W.Frag) : Sp := fun vs H Q _ => ∃ (a : Addr) (ps : List (Int × Int)) (n : Int), vs = [.ref a, .int n] ∧ Rows K H a ps ∧ ps.length ≤ 1000 ∧ ∀ H', Same H H' → Q (.bl (hasR ps n)) H'
section
variable {P : Program} {w : World} {K : PySem.W.Frag} {mg : Str → Option Value} {base : Heap}
theorem D_has (Z : Zc K mg) : Dn P w K mg base CX0 "_law_has" 1 ["_law_rows", "_law_number"] (spHas K) := by
  obtain ⟨fd, F⟩ := F_l_has Z
  refine ⟨_, fd, Z.glo "_law_has", F.kp, F.bindsN (fun _ _ _ _ _ _ us hl => match us, hl with | [_, _], _ => rfl), F.ok sc_l_has (fun vs H Q E h => ?_) (fun cdv A outer s H vs Q E hr h => ?_)⟩
  · obtain ⟨_, _, _, rfl, _⟩ := h
    rfl
  · obtain ⟨a, ps, n, rfl, ⟨xs, hs, hp⟩, hl, k⟩ := h
    refine ⟨_, PSs.nox (pss_one (ps_ret (pe_callB (cr_any rfl) (by rfl) (Z.free "any") (by decide +kernel) (pa_cons (pe_lc (own := [("_law_begin", 2), ("_law_end", 3)]) (g := gTup K 2 (gCons (gName 2) (gCons (gName 3) gNil))) (tt := tYes) (by rfl) sc_l_has.nd (pi_tup (pv 0)) (blkOk_by (own := [("_law_begin", 2), ("_law_end", 3)]) (N := N_l_has) (sc := defScope s_l_has) (by decide +kernel)) (fun _ _ _ _ _ => (pg_tup (by rfl) (pgs_cons (pg_name (i := 2) sc_l_has.nd rfl (Or.inl rfl)) (pgs_cons (pg_name (i := 3) sc_l_has.nd rfl (Or.inl rfl)) pgs_nil)))) (fun _ _ _ _ _ => pts_nil) (fun _ _ _ _ _ => (pe_chain op_le op_le (pv 2) (pv 1) (pv 3)))) pa_nil)))), ?_⟩
    refine ⟨_, rfl, a, rfl, ⟨_, hs⟩, fun D hD => lc_tup (xs := xs) (fun i H' => Same H H' ∧ H' D = some (.lst ((ps.take i).map fun p => V.bl (inR p n)))) ⟨Same.new (Same.refl H) hD, upd_same⟩ (fun i H' _ h => Same.sqT h.1 hs) (fun i x H' hx h => ?_) (fun H' h => ?_)⟩
    · obtain ⟨p, hpi, t, rfl, ht⟩ := hp.get hx
      have ht' := h.1 _ _ ht
      refine ⟨t, _, rfl, SqT.of ht', rfl, _, _, rfl, _, _, rfl, rfl, rfl, ?_⟩
      have fin : ∀ b : Bool, b = inR p n → ∃ acc, H' D = some (.lst acc) ∧ acc.length < sizeLine ∧ (Same H (upd H' D (.lst (acc ++ [V.bl b]))) ∧ (upd H' D (.lst (acc ++ [V.bl b]))) D = some (.lst ((ps.take (i + 1)).map fun p => V.bl (inR p n)))) := by
        rintro b rfl
        refine ⟨_, h.2, ?_, fun q o e => ?_, ?_⟩
        · rw [List.length_map, List.length_take]
          have : sizeLine = 16777216 := sizeLine_eq
          omega
        · rw [upd_ne (ne_of_none e hD)]
          exact h.1 _ _ e
        · rw [upd_same, map_take_succ _ hpi]
      refine ⟨_, rfl, _, rfl, _, _, rfl, rfl, _, rfl, ite2 (fun q => ?_) (fun q => ?_)⟩
      · refine ⟨_, rfl, _, _, rfl, rfl, fin _ ?_⟩
        unfold inR
        rw [q, Bool.true_and]
      · refine fin _ ?_
        unfold inR
        rw [Bool.not_eq_true] at q
        rw [q, Bool.false_and]
    · refine ⟨D, (ps.map fun p => inR p n), rfl, SqL.of ?_, ?_⟩
      · rw [h.2, hp.len, List.take_length, List.map_map]
        rfl
      · rw [show ((ps.map fun p => inR p n).any id) = hasR ps n by rw [List.any_map]; rfl]
        exact k _ h.1
end

/-! ### sorted, each once -/
def insU (x : Int) : List Int → List Int
  | [] => [x]
  | y :: t => if x < y then x :: y :: t else if x = y then y :: t else y :: insU x t
def sortU (l : List Int) : List Int := l.foldr insU []
theorem mem_insU {x k : Int} : ∀ {l : List Int}, k ∈ insU x l ↔ k = x ∨ k ∈ l
  | [] => by simp [insU]
  | y :: t => by
    unfold insU
    split
    · simp
    · split
      · rename_i h
        subst h
        simp
      · simp [mem_insU (l := t)]
        constructor
        · rintro (h | h | h) <;> simp [h]
        · rintro (h | h | h) <;> simp [h]
theorem inc_insU {x : Int} : ∀ {l : List Int}, l.Pairwise (· < ·) → (insU x l).Pairwise (· < ·)
  | [], _ => by simp [insU]
  | y :: t, h => by
    obtain ⟨h1, h2⟩ := List.pairwise_cons.mp h
    unfold insU
    split
    · refine List.pairwise_cons.mpr ⟨fun z hz => ?_, h⟩
      rcases List.mem_cons.mp hz with e | e
      · omega
      · have := h1 z e
        omega
    · split
      · exact h
      · refine List.pairwise_cons.mpr ⟨fun z hz => ?_, inc_insU h2⟩
        rcases mem_insU.mp hz with e | e
        · omega
        · exact h1 z e
theorem inc_sortU : ∀ l : List Int, (sortU l).Pairwise (· < ·)
  | [] => List.Pairwise.nil
  | x :: t => inc_insU (inc_sortU t)
theorem mem_sortU {k : Int} : ∀ {l : List Int}, k ∈ sortU l ↔ k ∈ l
  | [] => Iff.rfl
  | x :: t => by
    show k ∈ insU x (sortU t) ↔ _
    rw [mem_insU, mem_sortU, List.mem_cons]
theorem inc_uniq : ∀ {a b : List Int}, a.Pairwise (· < ·) → b.Pairwise (· < ·) → (∀ k, k ∈ a ↔ k ∈ b) → a = b
  | [], [], _, _, _ => rfl
  | [], y :: t, _, _, h => absurd ((h y).mpr List.mem_cons_self) List.not_mem_nil
  | x :: t, [], _, _, h => absurd ((h x).mp List.mem_cons_self) List.not_mem_nil
  | x :: s, y :: t, ha, hb, h => by
    obtain ⟨a1, a2⟩ := List.pairwise_cons.mp ha
    obtain ⟨b1, b2⟩ := List.pairwise_cons.mp hb
    have e : x = y := by
      rcases List.mem_cons.mp ((h x).mp List.mem_cons_self) with p | p
      · exact p
      · rcases List.mem_cons.mp ((h y).mpr List.mem_cons_self) with q | q
        · exact q.symm
        · have := a1 y q
          have := b1 x p
          omega
    subst e
    refine congrArg _ (inc_uniq a2 b2 fun k => ⟨fun m => ?_, fun m => ?_⟩)
    · rcases List.mem_cons.mp ((h k).mp (List.mem_cons_of_mem _ m)) with e | e
      · have := a1 k m
        omega
      · exact e
    · rcases List.mem_cons.mp ((h k).mpr (List.mem_cons_of_mem _ m)) with e | e
      · have := b1 k m
        omega
      · exact e
theorem len_insU (x : Int) : ∀ l : List Int, (insU x l).length ≤ l.length + 1
  | [] => Nat.le_refl _
  | y :: t => by
    unfold insU
    split
    · exact Nat.le_refl _
    · split
      · exact Nat.le_succ _
      · exact Nat.succ_le_succ (len_insU x t)
theorem len_sortU : ∀ l : List Int, (sortU l).length ≤ l.length
  | [] => Nat.le_refl _
  | x :: t => Nat.le_trans (len_insU x (sortU t)) (Nat.succ_le_succ (len_sortU t))
/-- the lows that have nothing right ahead, the highs that have nothing right behind -/
def lowR (ps : List (Int × Int)) (p : Int × Int) : Option Int := if hasR ps (p.1 - 1) then none else some p.1
def highR (ps : List (Int × Int)) (p : Int × Int) : Option Int := if hasR ps (p.2 + 1) then none else some p.2
def lowsR (ps : List (Int × Int)) : List Int := sortU (ps.filterMap (lowR ps))
def highsR (ps : List (Int × Int)) : List Int := sortU (ps.filterMap (highR ps))
def fewR (ps : List (Int × Int)) : List (Int × Int) := (lowsR ps).zip (highsR ps)
theorem fm_take_succ {α β : Type} (f : α → Option β) {l : List α} {i : Nat} {x : α} (h : l[i]? = some x) : (l.take (i + 1)).filterMap f = (l.take i).filterMap f ++ (f x).toList := by
  rw [List.take_add_one, h, List.filterMap_append]
  simp [List.filterMap_cons]
  cases f x <;> rfl
def spFewL (K : PySem.W.Frag) : Sp := fun vs H Q _ => ∃ (a : Addr) (ps : List (Int × Int)), vs = [.ref a] ∧ Rows K H a ps ∧ ps.length ≤ 50 ∧ ∀ (c : Addr) (H' : Hp), Same H H' → Rows K H' c (fewR ps) → Q (.ref c) H'
section
variable {P : Program} {w : World} {K : PySem.W.Frag} {mg : Str → Option Value} {base : Heap}
theorem fm_len {α β : Type} (f : α → Option β) (l : List α) : (l.filterMap f).length ≤ l.length := List.length_filterMap_le f l
theorem D_lfewest (Z : Zc K mg) : Dn P w K mg base CX0 "_law_fewest" 2 ["_law_rows"] (spFewL K) := by
  have D_l_has : Dn P w K mg base CX0 "_law_has" 1 ["_law_rows", "_law_number"] (spHas K) := D_has Z
  obtain ⟨fd, F⟩ := F_l_fewest Z
  refine ⟨_, fd, Z.glo "_law_fewest", F.kp, F.bindsN (fun _ _ _ _ _ _ us hl => match us, hl with | [_], _ => rfl), F.ok sc_l_fewest (fun vs H Q E h => ?_) (fun cdv A outer s H vs Q E hr h => ?_)⟩
  · obtain ⟨_, _, rfl, _⟩ := h
    rfl
  · obtain ⟨a, ps, rfl, hR, hl, k⟩ := h
    have sz : sizeLine = 16777216 := sizeLine_eq
    obtain ⟨xs, hs, hp⟩ := id hR
    refine ⟨_, PSs.nox (pss_cons (ps_set (i := 1) sc_l_fewest.nd rfl (Or.inl rfl) (pe_callB (cr_sortedSet rfl) (by rfl) (Z.free "sorted") (by decide +kernel) (pa_cons (pe_callTy (cr_setI rfl) (by rfl) (Z.free "set") (by decide +kernel) (pa_cons (pe_lc (own := [("_law_begin", 3), ("_law_end", 4)]) (g := gTup K 2 (gCons (gName 3) (gCons (gName 4) gNil))) (by rfl) sc_l_fewest.nd (pi_tup (pv 0)) (blkOk_by (own := [("_law_begin", 3), ("_law_end", 4)]) (N := N_l_fewest) (sc := defScope s_l_fewest) (by decide +kernel)) (fun _ _ _ _ _ => (pg_tup (by rfl) (pgs_cons (pg_name (i := 3) sc_l_fewest.nd rfl (Or.inl rfl)) (pgs_cons (pg_name (i := 4) sc_l_fewest.nd rfl (Or.inl rfl)) pgs_nil)))) (fun _ _ _ _ _ => (pts_one (pt_not (pt_val (pe_d D_l_has (hr.mono (by decide)) (by rfl) pass0 (pa_cons (pv 0) (pa_cons (pe_op op_sub (pv 3) pe_int) pa_nil))))))) (fun _ _ _ _ _ => (pv 3))) pa_nil)) pa_nil)))
      (pss_cons (ps_set (i := 2) sc_l_fewest.nd rfl (Or.inl rfl) (pe_callB (cr_sortedSet rfl) (by rfl) (Z.free "sorted") (by decide +kernel) (pa_cons (pe_callTy (cr_setI rfl) (by rfl) (Z.free "set") (by decide +kernel) (pa_cons (pe_lc (own := [("_law_begin", 3), ("_law_end", 4)]) (g := gTup K 2 (gCons (gName 3) (gCons (gName 4) gNil))) (by rfl) sc_l_fewest.nd (pi_tup (pv 0)) (blkOk_by (own := [("_law_begin", 3), ("_law_end", 4)]) (N := N_l_fewest) (sc := defScope s_l_fewest) (by decide +kernel)) (fun _ _ _ _ _ => (pg_tup (by rfl) (pgs_cons (pg_name (i := 3) sc_l_fewest.nd rfl (Or.inl rfl)) (pgs_cons (pg_name (i := 4) sc_l_fewest.nd rfl (Or.inl rfl)) pgs_nil)))) (fun _ _ _ _ _ => (pts_one (pt_not (pt_val (pe_d D_l_has (hr.mono (by decide)) (by rfl) pass0 (pa_cons (pv 0) (pa_cons (pe_op op_add (pv 4) pe_int) pa_nil))))))) (fun _ _ _ _ _ => (pv 4))) pa_nil)) pa_nil)))
      (pss_one (ps_ret (pe_callTy call_tuple_of (by rfl) (Z.free "tuple") (by decide +kernel) (pa_cons (pe_lc (own := [("_law_begin", 3), ("_law_end", 4)]) (g := gTup K 2 (gCons (gName 3) (gCons (gName 4) gNil))) (tt := tYes) (by rfl) sc_l_fewest.nd (RZ.pi_zipA (by rfl) (Z.free "zip") (pa_cons (pv 1) (pa_cons (pv 2) pa_nil))) (blkOk_by (own := [("_law_begin", 3), ("_law_end", 4)]) (N := N_l_fewest) (sc := defScope s_l_fewest) (by decide +kernel)) (fun _ _ _ _ _ => (pg_tup (by rfl) (pgs_cons (pg_name (i := 3) sc_l_fewest.nd rfl (Or.inl rfl)) (pgs_cons (pg_name (i := 4) sc_l_fewest.nd rfl (Or.inl rfl)) pgs_nil)))) (fun _ _ _ _ _ => pts_nil) (fun _ _ _ _ _ => (pe_tup (pa_cons (pv 3) (pa_cons (pv 4) pa_nil))))) pa_nil)))))), ?_⟩
    refine ⟨_, rfl, a, rfl, ⟨_, hs⟩, fun D hD => lc_it (walk_tup (xs := xs)) (fun i H' => Same H H' ∧ H' D = some (.lst (((ps.take i).filterMap (lowR ps)).map V.int))) ⟨Same.new (Same.refl H) hD, upd_same⟩ (fun i H' _ h => Same.sqT h.1 hs) (fun i x H' H'' hi h y => ?_) (fun H1 h1 => ?_)⟩
    · obtain ⟨rfl, hx⟩ := y
      obtain ⟨p, hpi, t, rfl, ht⟩ := hp.get hx
      refine ⟨t, _, rfl, SqT.of (h.1 _ _ ht), rfl, _, _, rfl, _, _, rfl, rfl, rfl, ?_⟩
      refine ⟨_, rfl, _, rfl, _, _, rfl, rfl, a, ps, _, rfl, hR.same h.1, by omega, fun H2 s2 => ⟨_, rfl, ?_⟩⟩
      refine ite2 (fun q => ?_) (fun q => ?_)
      · refine ⟨_, rfl, _, s2 _ _ h.2, ?_, fun q o e => ?_, ?_⟩
        · rw [List.length_map]
          have := fm_len (lowR ps) (ps.take i)
          rw [List.length_take] at this
          omega
        · rw [upd_ne (ne_of_none e hD)]
          exact s2 _ _ (h.1 _ _ e)
        · have e1 : lowR ps p = some p.1 := if_neg (by simpa using q)
          rw [upd_same, fm_take_succ _ hpi, e1, List.map_append]
          rfl
      · have e1 : lowR ps p = none := if_pos (by simpa using q)
        refine ⟨h.1.trans s2, ?_⟩
        rw [s2 _ _ h.2, fm_take_succ _ hpi, e1]
        simp
    · have n1 : (ps.filterMap (lowR ps)).length ≤ 50 := Nat.le_trans (fm_len _ _) hl
      refine ⟨D, ps.filterMap (lowR ps), rfl, SqL.of ?_, by omega, fun p c hp1 hc => ?_⟩
      · rw [h1.2, hp.len, List.take_length]
      refine ⟨p, _, c, rfl, upd_same, by omega, fun ns q inc mem hln hq => ?_⟩
      obtain rfl : ns = lowsR ps := inc_uniq inc (inc_sortU _) fun k => by rw [mem, decide_eq_true_iff]; exact mem_sortU.symm
      generalize hH2 : upd (upd H1 p _) q _ = H2
      have s2 : Same H H2 := by
        rw [← hH2]
        exact Same.new (Same.new h1.1 hp1) hq
      have hq2 : H2 q = some (.lst ((lowsR ps).map V.int)) := by
        rw [← hH2]
        exact upd_same
      refine ⟨_, rfl, a, rfl, ⟨_, Same.sqT s2 hs⟩, fun D2 hD2 => lc_it (walk_tup (xs := xs)) (fun i H' => Same H2 H' ∧ H' D2 = some (.lst (((ps.take i).filterMap (highR ps)).map V.int))) ⟨Same.new (Same.refl H2) hD2, upd_same⟩ (fun i H' _ h => Same.sqT (s2.trans h.1) hs) (fun i x H' H'' hi h y => ?_) (fun H3 h3 => ?_)⟩
      · obtain ⟨rfl, hx⟩ := y
        obtain ⟨p, hpi, t, rfl, ht⟩ := hp.get hx
        refine ⟨t, _, rfl, SqT.of (h.1 _ _ (s2 _ _ ht)), rfl, _, _, rfl, _, _, rfl, rfl, rfl, ?_⟩
        refine ⟨_, rfl, _, rfl, _, _, rfl, rfl, a, ps, _, rfl, hR.same (s2.trans h.1), by omega, fun H4 s4 => ⟨_, rfl, ?_⟩⟩
        refine ite2 (fun q => ?_) (fun q => ?_)
        · refine ⟨_, rfl, _, s4 _ _ h.2, ?_, fun q o e => ?_, ?_⟩
          · rw [List.length_map]
            have := fm_len (highR ps) (ps.take i)
            rw [List.length_take] at this
            omega
          · rw [upd_ne (ne_of_none e hD2)]
            exact s4 _ _ (h.1 _ _ e)
          · have e1 : highR ps p = some p.2 := if_neg (by simpa using q)
            rw [upd_same, fm_take_succ _ hpi, e1, List.map_append]
            rfl
        · have e1 : highR ps p = none := if_pos (by simpa using q)
          refine ⟨h.1.trans s4, ?_⟩
          rw [s4 _ _ h.2, fm_take_succ _ hpi, e1]
          simp
      · have n2 : (ps.filterMap (highR ps)).length ≤ 50 := Nat.le_trans (fm_len _ _) hl
        refine ⟨D2, ps.filterMap (highR ps), rfl, SqL.of ?_, by omega, fun p2 c2 hp2 hc2 => ?_⟩
        · rw [h3.2, hp.len, List.take_length]
        refine ⟨p2, _, c2, rfl, upd_same, by omega, fun ns q2 inc mem hln hq2' => ?_⟩
        obtain rfl : ns = highsR ps := inc_uniq inc (inc_sortU _) fun k => by rw [mem, decide_eq_true_iff]; exact mem_sortU.symm
        generalize hH4 : upd (upd H3 p2 _) q2 _ = H4
        have s4 : Same H2 H4 := by
          rw [← hH4]
          exact Same.new (Same.new h3.1 hp2) hq2'
        have hq4 : H4 q2 = some (.lst ((highsR ps).map V.int)) := by
          rw [← hH4]
          exact upd_same
        have n3 : (lowsR ps).length ≤ 50 := Nat.le_trans (len_sortU _) n1
        refine ⟨_, rfl, _, rfl, q, q2, _, _, rfl, .inl ⟨SqL.of (s4 _ _ hq2), SqL.of hq4, fun D3 hD3 => lc_it (walk_zip rfl) (fun i H' => Same H4 H' ∧ ∃ zs, H' D3 = some (.lst zs) ∧ zs.length = i ∧ Prs H' zs ((fewR ps).take i)) ⟨Same.new (Same.refl H4) hD3, [], upd_same, rfl, .nil⟩ (fun i H' _ h => ⟨SqL.of (h.1 _ _ (s4 _ _ hq2)), SqL.of (h.1 _ _ hq4)⟩) (fun i x H' H'' hi h y => ?_) (fun H5 h5 => ?_)⟩⟩
        · obtain ⟨T, x, y, rfl, hT, rfl, ex, ey⟩ := y
          obtain ⟨h0, zs, hz1, hz2, hz3⟩ := h
          replace ex : ((lowsR ps).map V.int)[i]? = some x := ex
          replace ey : ((highsR ps).map V.int)[i]? = some y := ey
          rw [List.getElem?_map] at ex ey
          cases e1 : (lowsR ps)[i]? with
          | none => rw [e1] at ex; cases ex
          | some lo =>
            cases e2 : (highsR ps)[i]? with
            | none => rw [e2] at ey; cases ey
            | some hi' =>
              rw [e1] at ex
              rw [e2] at ey
              obtain rfl := Option.some.inj ex
              obtain rfl := Option.some.inj ey
              refine ⟨T, _, rfl, SqT.of upd_same, rfl, _, _, rfl, _, _, rfl, rfl, rfl, ?_⟩
              refine ⟨_, rfl, _, rfl, (show 2 ≤ sizeLine by decide), fun t ht => ?_⟩
              have sT : Same H' (upd (upd H' T (.tup [V.int lo, V.int hi'])) t (.tup [V.int lo, V.int hi'])) := Same.new (Same.new (Same.refl _) hT) ht
              refine ⟨_, sT _ _ hz1, ?_, ?_⟩
              · have : min (List.map V.int (lowsR ps)).length (List.map V.int (highsR ps)).length ≤ 50 := by rw [List.length_map]; omega
                omega
              · have e3 : (fewR ps)[i]? = some (lo, hi') := by
                  unfold fewR
                  rw [List.getElem?_zip_eq_some]
                  exact ⟨e1, e2⟩
                have ht6 : (upd (upd H' T (.tup [V.int lo, V.int hi'])) t (.tup [V.int lo, V.int hi'])) t = some (.tup [V.int lo, V.int hi']) := upd_same
                generalize upd (upd H' T _) t _ = H6 at sT ht6
                have hz6 := sT _ _ hz1
                have b6 : But D3 H6 (upd H6 D3 (.lst (zs ++ [V.ref t]))) := But.upd _ _ _
                refine ⟨fun a o e => ?_, zs ++ [V.ref t], upd_same, by simp [hz2], ?_⟩
                · rw [upd_ne (ne_of_none e hD3)]
                  exact sT _ _ (h0 _ _ e)
                · rw [List.take_add_one, e3]
                  exact Prs.app (Prs.imp (fun _ _ z => (z.same sT).but hz6 b6) hz3) (.cons (Pr.but ⟨t, rfl, ht6⟩ hz6 b6) .nil)
        · obtain ⟨h0, zs, hz1, hz2, hz3⟩ := h5
          refine ⟨D3, zs, rfl, .inl ⟨SqL.of hz1, fun l hl => ?_⟩⟩
          have s6 : Same H5 (upd H5 l (.tup zs)) := Same.new (Same.refl _) hl
          refine k l _ (s2.trans (s4.trans (h0.trans s6))) ⟨zs, SqT.of upd_same, ?_⟩
          rw [List.length_map, List.length_map, ← List.length_zip, show (lowsR ps).zip (highsR ps) = fewR ps from rfl, List.take_length] at hz3
          exact Prs.imp (fun _ _ z => z.same s6) hz3
end

/-! ### stretches that the law draws -/
def Valid (ps : List (Int × Int)) : Prop := ∀ p ∈ ps, 0 ≤ p.1 ∧ p.1 ≤ p.2 ∧ p.2 ≤ 999999
theorem Valid.app {ps : List (Int × Int)} {p : Int × Int} (h : Valid ps) (q : 0 ≤ p.1 ∧ p.1 ≤ p.2 ∧ p.2 ≤ 999999) : Valid (ps ++ [p]) := fun x hx => by
  rcases List.mem_append.mp hx with e | e
  · exact h x e
  · rw [List.mem_singleton.mp e]
    exact q
theorem atI2 {r : Int} (h0 : 0 ≤ r) (h1 : r < 2) (a b : V) : ∃ v, atI [a, b] r = some v ∧ (v = a ∨ v = b) := by
  have : r = 0 ∨ r = 1 := by omega
  rcases this with rfl | rfl
  · exact ⟨a, rfl, .inl rfl⟩
  · exact ⟨b, rfl, .inr rfl⟩
theorem atI3 {r : Int} (h0 : 0 ≤ r) (h1 : r < 3) (a b c : V) : ∃ v, atI [a, b, c] r = some v ∧ (v = a ∨ v = b ∨ v = c) := by
  have : r = 0 ∨ r = 1 ∨ r = 2 := by omega
  rcases this with rfl | rfl | rfl
  · exact ⟨a, rfl, .inl rfl⟩
  · exact ⟨b, rfl, .inr (.inl rfl)⟩
  · exact ⟨c, rfl, .inr (.inr rfl)⟩
theorem atI4 {r : Int} (h0 : 0 ≤ r) (h1 : r < 4) (a b c d : V) : ∃ v, atI [a, b, c, d] r = some v ∧ (v = a ∨ v = b ∨ v = c ∨ v = d) := by
  have : r = 0 ∨ r = 1 ∨ r = 2 ∨ r = 3 := by omega
  rcases this with rfl | rfl | rfl | rfl
  · exact ⟨a, rfl, .inl rfl⟩
  · exact ⟨b, rfl, .inr (.inl rfl)⟩
  · exact ⟨c, rfl, .inr (.inr (.inl rfl))⟩
  · exact ⟨d, rfl, .inr (.inr (.inr rfl))⟩
theorem Prs.dp {K : PySem.W.Frag} {H : Hp} : ∀ {xs : List V} {ps : List (Int × Int)}, Prs H xs ps → DpAll K H xs (ps.map fun p => PyData.tuple [.int p.1, .int p.2])
  | _, _, .nil => .nil
  | _, _, .cons ⟨t, e, q⟩ b => .cons (by rw [e]; exact .tup (SqT.of q) (.cons (.int _) (.cons (.int _) .nil))) (Prs.dp b)
theorem lay_pairs : ∀ ps : List (Int × Int), PyData.canLayAll0 (ps.map fun p => PyData.tuple [.int p.1, .int p.2]) = true
  | [] => rfl
  | p :: ps => by
    show (PyData.canLay0 _ && PyData.canLayAll0 (ps.map fun p => PyData.tuple [.int p.1, .int p.2])) = true
    rw [lay_pairs ps]
    rfl
theorem depth_pairs : ∀ ps : List (Int × Int), PyData.depthAll (ps.map fun p => PyData.tuple [.int p.1, .int p.2]) ≤ 1
  | [] => by decide
  | p :: ps => by
    show max (PyData.depth (PyData.tuple [.int p.1, .int p.2])) (PyData.depthAll (ps.map fun p => PyData.tuple [.int p.1, .int p.2])) ≤ 1
    have h := depth_pairs ps
    have e : PyData.depth (PyData.tuple [.int p.1, .int p.2]) = 1 := rfl
    omega
theorem shaped_pairs (ps : List (Int × Int)) : SeqAt.shaped (PyData.list (ps.map fun p => PyData.tuple [.int p.1, .int p.2])) = true ∧ SeqAt.shaped (PyData.tuple (ps.map fun p => PyData.tuple [.int p.1, .int p.2])) = true := by
  have h1 := lay_pairs ps
  have h2 := depth_pairs ps
  constructor
  · show (PyData.canLayAll0 _ && decide (PyData.depthAll _ + 1 ≤ 64)) = true
    rw [h1, Bool.true_and]
    exact decide_eq_true (by omega)
  · show (PyData.canLayAll0 _ && decide (PyData.depthAll _ + 1 ≤ 64)) = true
    rw [h1, Bool.true_and]
    exact decide_eq_true (by omega)
/-- the list at f that is being filled: what stood in H stands, but the bag at b -/
structure Fill (K : PySem.W.Frag) (H H' : Hp) (b f : Addr) (n : Nat) (zs : List V) (ps : List (Int × Int)) : Prop where
  but : But b H H'
  bag : Bag H' b n
  at_ : H' f = some (.lst zs)
  prs : Prs H' zs ps
section
variable {K : PySem.W.Frag} {H H' H2 : Hp} {b f : Addr} {n m : Nat} {zs : List V} {ps : List (Int × Int)}
theorem Fill.take (s : Fill K H H' b f n zs ps) (hf : f ≠ b) (h : But b H' H2) (g : Bag H2 b m) : Fill K H H2 b f m zs ps := by
  obtain ⟨l, hl⟩ := s.bag.lst
  exact ⟨s.but.trans h, g, h _ _ hf s.at_, Prs.imp (fun _ _ q => q.but hl h) s.prs⟩
theorem Fill.new {t : Addr} {o : HO} (s : Fill K H H' b f n zs ps) (h : H' t = none) : Fill K H (upd H' t o) b f n zs ps := by
  have w : Same H' (upd H' t o) := Same.new (Same.refl _) h
  exact ⟨s.but.trans (But.of w), s.bag.same w, w _ _ s.at_, Prs.imp (fun _ _ q => q.same w) s.prs⟩
theorem Fill.push {t : Addr} {p : Int × Int} (s : Fill K H H' b f n zs ps) (hf : H f = none) (nf : f ≠ b) (ht : H' t = none) : Fill K H (upd (upd H' t (.tup [.int p.1, .int p.2])) f (.lst (zs ++ [.ref t]))) b f n (zs ++ [.ref t]) (ps ++ [p]) := by
  have s1 := s.new (o := .tup [.int p.1, .int p.2]) ht
  have hb1 : But f (upd H' t (.tup [.int p.1, .int p.2])) (upd (upd H' t (.tup [.int p.1, .int p.2])) f (.lst (zs ++ [.ref t]))) := But.upd _ _ _
  refine ⟨fun a o na e => ?_, ?_, upd_same, ?_⟩
  · rw [upd_ne (ne_of_none e hf)]
    exact s1.but a o na e
  · obtain ⟨z, x, c, e, q⟩ := s1.bag
    exact ⟨z, x, c, by rw [upd_ne nf.symm]; exact e, q⟩
  · exact Prs.app (Prs.imp (fun _ _ q => q.but s1.at_ hb1) s1.prs) (.cons (Pr.but ⟨t, rfl, upd_same⟩ s1.at_ hb1) .nil)
end
def spStr (K : PySem.W.Frag) : Sp := fun vs H Q _ => ∃ (b : Addr) (n : Nat) (most : Int), vs = [.ref b, .int most] ∧ Bag H b n ∧ n ≤ 100000000 ∧ 3 ≤ most ∧ most ≤ 60 ∧
  ∀ (c : Addr) (ps : List (Int × Int)) (H' : Hp), But b H H' → Bag H' b (n + 400) → Rows K H' c ps → Valid ps → (ps.length : Int) ≤ most → Q (.ref c) H'
section
variable {P : Program} {w : World} {K : PySem.W.Frag} {mg : Str → Option Value} {base : Heap}
theorem D_stretches (Z : Zc K mg) : Dn P w K mg base CX0 "_law_stretches" 2 ["_law_bag_here", "_law_most"] (spStr K) := by
  have D_l_take : Dn P w K mg base CX0 "_law_take" 1 ["_law_bag_here", "_law_many"] spTake := D_take Z
  obtain ⟨fd, F⟩ := F_l_stretches Z
  refine ⟨_, fd, Z.glo "_law_stretches", F.kp, F.bindsN (fun _ _ _ _ _ _ us hl => match us, hl with | [_, _], _ => rfl), F.ok sc_l_stretches (fun vs H Q E h => ?_) (fun cdv A outer s H vs Q E hr h => ?_)⟩
  · obtain ⟨_, _, _, rfl, _⟩ := h
    rfl
  · obtain ⟨b, n, most, rfl, hb, hn, hm1, hm2, k⟩ := h
    have sz : sizeLine = 16777216 := sizeLine_eq
    refine ⟨_, PSs.nox (pss_cons (ps_set (i := 2) sc_l_stretches.nd rfl (Or.inl rfl) (pe_ix ix_list (pe_lst (pa_cons pe_int (pa_cons pe_int (pa_cons pe_int (pa_cons pe_int pa_nil))))) (pe_d D_l_take (hr.mono (by decide)) (by rfl) pass0 (pa_cons (pv 0) (pa_cons pe_int pa_nil))) (fun _ _ => rfl)))
      (pss_cons (ps_set (i := 3) sc_l_stretches.nd rfl (Or.inl rfl) (pe_ix ix_list (pe_lst (pa_cons pe_int (pa_cons pe_int (pa_cons pe_int (pa_cons pe_int pa_nil))))) (pe_d D_l_take (hr.mono (by decide)) (by rfl) pass0 (pa_cons (pv 0) (pa_cons pe_int pa_nil))) (fun _ _ => rfl)))
      (pss_cons (ps_set (i := 4) sc_l_stretches.nd rfl (Or.inl rfl) (pe_lst pa_nil))
      (pss_cons (ps_for PassesOwn.never rfl (pi_range1 (by rfl) (Z.free "range") (pa_cons (pe_d D_l_take (hr.mono (by decide)) (by rfl) pass0 (pa_cons (pv 0) (pa_cons (pe_ix ix_list (pe_lst (pa_cons pe_int (pa_cons (pe_op op_add (pv 1) pe_int) pa_nil))) (pe_d D_l_take (hr.mono (by decide)) (by rfl) pass0 (pa_cons (pv 0) (pa_cons pe_int pa_nil))) (fun _ _ => rfl)) pa_nil))) pa_nil)) (pg_name (i := 5) sc_l_stretches.nd rfl (Or.inl rfl))
      (pss_cons (ps_set (i := 6) sc_l_stretches.nd rfl (Or.inl rfl) (pe_d D_l_take (hr.mono (by decide)) (by rfl) pass0 (pa_cons (pv 0) (pa_cons (pv 2) pa_nil))))
      (pss_cons (ps_if (PW.pt (pw_and (pt_cmpR (op_neD hr.units) (pv 4) (pe_lst pa_nil) (nomark _)) (pw_and1 (pt_cmpR op_eq (pe_d D_l_take (hr.mono (by decide)) (by rfl) pass0 (pa_cons (pv 0) (pa_cons pe_int pa_nil))) pe_int (nomark _))))) (pss_one (ps_set (i := 6) sc_l_stretches.nd rfl (Or.inl rfl) (pe_callB (call_min2 rfl) (by rfl) (Z.free "min") (by decide +kernel) (pa_cons pe_int (pa_cons (pe_op op_add (pe_ix ix_tup (pe_ix ix_list (pv 4) (pe_un un_neg pe_int) (fun _ _ => rfl)) pe_int (fun _ _ => rfl)) (pe_d D_l_take (hr.mono (by decide)) (by rfl) pass0 (pa_cons (pv 0) (pa_cons pe_int pa_nil)))) pa_nil))))) pss_nil)
      (pss_one (ps_expr (pe_bm PySem.F.plainAttrs_list PySem.F.slot_list_append PySem.F.type_list_append mt_append (pv 4) (pa_cons (pe_tup (pa_cons (pv 6) (pa_cons (pe_callB (call_min2 rfl) (by rfl) (Z.free "min") (by decide +kernel) (pa_cons pe_int (pa_cons (pe_op op_add (pv 6) (pe_d D_l_take (hr.mono (by decide)) (by rfl) pass0 (pa_cons (pv 0) (pa_cons (pv 3) pa_nil)))) pa_nil))) pa_nil))) pa_nil)))))))
      (pss_one (ps_ret (pe_callTy call_tuple_of (by rfl) (Z.free "tuple") (by decide +kernel) (pa_cons (pv 4) pa_nil)))))))), ?_⟩
    -- wide, long
    refine ⟨(by decide), fun p1 hp1 => ⟨_, rfl, b, n, _, rfl, hb.same (Same.new (Same.refl H) hp1), by omega, by decide, by decide, fun r1 H1 a1 a2 b1 g1 => ?_⟩⟩
    obtain ⟨v1, e1, d1⟩ := atI4 a1 a2 (V.int 12) (.int 60) (.int 400) (.int 1000000)
    have n1 : p1 ≠ b := fun z => by
      obtain ⟨l, q⟩ := hb.lst
      rw [z, q] at hp1
      cases hp1
    refine ⟨p1, _, _, _, rfl, rfl, SqL.of (b1 _ _ n1 upd_same), e1, ?_⟩
    obtain ⟨wide, rfl, w1, w2⟩ : ∃ z : Int, v1 = .int z ∧ 0 < z ∧ z ≤ 1000000 := by
      rcases d1 with rfl | rfl | rfl | rfl <;> exact ⟨_, rfl, by decide, by decide⟩
    have c1 : But b H H1 := (But.of (Same.new (Same.refl H) hp1)).trans b1
    refine ⟨(by decide), fun p2 hp2 => ⟨_, rfl, b, n + 1, _, rfl, g1.same (Same.new (Same.refl H1) hp2), by omega, by decide, by decide, fun r2 H2 a3 a4 b2 g2 => ?_⟩⟩
    obtain ⟨v2, e2, d2⟩ := atI4 a3 a4 (V.int 1) (.int 2) (.int 9) (.int 200000)
    have n2 : p2 ≠ b := fun z => by
      obtain ⟨l, q⟩ := g1.lst
      rw [z, q] at hp2
      cases hp2
    refine ⟨p2, _, _, _, rfl, rfl, SqL.of (b2 _ _ n2 upd_same), e2, ?_⟩
    obtain ⟨long, rfl, l1, l2⟩ : ∃ z : Int, v2 = .int z ∧ 0 < z ∧ z ≤ 200000 := by
      rcases d2 with rfl | rfl | rfl | rfl <;> exact ⟨_, rfl, by decide, by decide⟩
    have c2 : But b H H2 := (c1.trans (But.of (Same.new (Same.refl H1) hp2))).trans b2
    -- found = []
    refine ⟨Nat.zero_le _, fun f hf => ?_⟩
    have nf : f ≠ b := fun z => by
      obtain ⟨l, q⟩ := g2.lst
      rw [z, q] at hf
      cases hf
    have hf0 : H f = none := by
      cases e : H f with
      | none => rfl
      | some o => rw [c2 _ _ nf e] at hf; cases hf
    have s3 : Fill K H (upd H2 f (.lst [])) b f (n + 2) [] [] := ⟨c2.trans (But.of (Same.new (Same.refl H2) hf)), g2.same (Same.new (Same.refl H2) hf), upd_same, .nil⟩
    -- how many
    refine ⟨_, rfl, _, rfl, _, _, rfl, rfl, (show 2 ≤ sizeLine by decide), fun p3 hp3 => ?_⟩
    have s4 := s3.new (o := .lst [.int 4, .int (most + 1)]) hp3
    refine ⟨_, rfl, b, n + 2, _, rfl, s4.bag, by omega, by decide, by decide, fun r3 H5 a5 a6 b5 g5 => ?_⟩
    have n3 : p3 ≠ b := fun z => by
      obtain ⟨l, q⟩ := s3.bag.lst
      rw [z, q] at hp3
      cases hp3
    obtain ⟨v3, e3, d3⟩ := atI2 a5 a6 (V.int 4) (.int (most + 1))
    refine ⟨p3, _, _, _, rfl, rfl, SqL.of (b5 _ _ n3 upd_same), e3, ?_⟩
    obtain ⟨many, rfl, m1, m2, m3⟩ : ∃ z : Int, v3 = .int z ∧ 0 < z ∧ z ≤ most + 1 ∧ z ≤ 61 := by
      rcases d3 with rfl | rfl
      · exact ⟨_, rfl, by omega, by omega, by omega⟩
      · exact ⟨_, rfl, by omega, by omega, by omega⟩
    have s5 := s4.take nf b5 g5
    refine ⟨b, n + 3, _, rfl, s5.bag, by omega, m1, by omega, fun r4 H6 a7 a8 b6 g6 => ?_⟩
    have s6 := s5.take nf b6 g6
    refine ⟨r4, rfl, by omega, by omega, for_it walk_range (fun i σ H' => ∃ (zs : List V) (ps : List (Int × Int)) (v5 v6 : Option V), σ = [some (.ref b), some (.int most), some (.int wide), some (.int long), some (.ref f), v5, v6] ∧ Fill K H H' b f (n + 4 + 4 * i) zs ps ∧ ps.length = i ∧ Valid ps)
      ⟨[], [], none, none, rfl, s6, rfl, fun p hp => absurd hp List.not_mem_nil⟩ (fun i σ H' _ _ => trivial) (fun i x σ H' H'' hi h y => ?_) (fun σ H' h => ?_)⟩
    · obtain ⟨rfl, rfl⟩ := y
      obtain ⟨zs, ps, v5, v6, rfl, st, hl, hv⟩ := h
      have hi2 : i ≤ 60 := by omega
      refine ⟨_, rfl, _, rfl, b, _, _, rfl, st.bag, by omega, w1, by omega, fun r5 H7 a9 a10 b7 g7 => ?_⟩
      have s7 := st.take nf b7 g7
      -- found != []: the data
      have sh := shaped_pairs ps
      refine ⟨_, rfl, Nat.zero_le _, fun p4 hp4 => ?_⟩
      have s8 := s7.new (o := .lst []) hp4
      refine ⟨_, _, .lst (SqL.of s8.at_) s8.prs.dp, .lst (SqL.of upd_same) .nil, (shaped_pairs ps).1, by decide, _, rfl, ?_⟩
      refine ite2 (fun q => ?_) (fun q => ?_)
      · refine ⟨_, rfl, b, _, _, rfl, s8.bag, by omega, by decide, by decide, fun r6 H9 a11 a12 b9 g9 => ?_⟩
        have s9 := s8.take nf b9 g9
        refine ⟨rfl, _, rfl, ?_⟩
        refine ite2 (fun q2 => ?_) (fun q2 => ?_)
        · -- begin = min(999999, found[-1][1] + take(3))
          have zne : zs ≠ [] := fun z => by
            have q' := s8.prs.len
            rw [z] at q'
            have : ps = [] := List.length_eq_zero_iff.mp q'.symm
            rw [this] at q
            exact absurd q (by decide)
          obtain ⟨zl, hzl⟩ : ∃ z, zs[zs.length - 1]? = some z := ⟨_, List.getElem?_eq_getElem (by have := List.length_pos_iff.mpr zne; omega)⟩
          obtain ⟨pl, hpl, tl, rfl, htl⟩ := s9.prs.get hzl
          have vl := hv pl (List.mem_of_getElem? hpl)
          have al : atI zs (-1) = some (V.ref tl) := by
            have pos := List.length_pos_iff.mpr zne
            show (ixN zs.length (-1)).bind (fun j => zs[j]?) = _
            have : ixN zs.length (-1) = some (zs.length - 1) := by
              unfold ixN
              rw [if_neg (by decide), if_pos (by omega)]
              exact congrArg some (by omega)
            rw [this]
            exact hzl
          refine ⟨_, rfl, _, rfl, f, _, _, _, rfl, rfl, SqL.of s9.at_, al, tl, _, _, _, rfl, rfl, SqT.of htl, rfl, _, rfl, b, _, _, rfl, s9.bag, by omega, by decide, by decide, fun r7 H10 a13 a14 b10 g10 => ?_⟩
          have s10 := s9.take nf b10 g10
          refine ⟨_, _, rfl, rfl, _, _, rfl, ?_⟩
          have bg0 : (0 : Int) ≤ if pl.2 + r7 < 999999 then pl.2 + r7 else 999999 := by split <;> omega
          have bg1 : (if pl.2 + r7 < 999999 then pl.2 + r7 else 999999) ≤ (999999 : Int) := by split <;> omega
          generalize (if pl.2 + r7 < 999999 then pl.2 + r7 else 999999) = bg at bg0 bg1
          refine ⟨_, rfl, .inl ⟨rfl, _, SqL.of s10.at_⟩, _, rfl, _, rfl, _, rfl, _, rfl, b, _, _, rfl, s10.bag, by omega, l1, by omega, fun rr HH z1 z2 z3 z4 => ?_⟩
          have sn := s10.take nf z3 z4
          refine ⟨_, _, rfl, rfl, _, _, rfl, (show 2 ≤ sizeLine by decide), fun t ht => ?_⟩
          have ln : zs.length = i := by rw [s10.prs.len, hl]
          refine ⟨f, _, _, rfl, rfl, (sn.new ht).at_, (by omega), ?_⟩
          have sp := sn.push (p := (bg, if bg + rr < 999999 then bg + rr else 999999)) hf0 nf ht
          refine ⟨_, _, _, _, rfl, ⟨sp.but, sp.bag.mono (by omega), sp.at_, sp.prs⟩, by simp [hl], hv.app ⟨bg0, ?_, ?_⟩⟩
          · show bg ≤ if bg + rr < 999999 then bg + rr else 999999
            split <;> omega
          · show (if bg + rr < 999999 then bg + rr else 999999) ≤ 999999
            split <;> omega
        · have bg0 := a9
          refine ⟨_, rfl, .inl ⟨rfl, _, SqL.of s9.at_⟩, _, rfl, _, rfl, _, rfl, _, rfl, b, _, _, rfl, s9.bag, by omega, l1, by omega, fun rr HH z1 z2 z3 z4 => ?_⟩
          have sn := s9.take nf z3 z4
          refine ⟨_, _, rfl, rfl, _, _, rfl, (show 2 ≤ sizeLine by decide), fun t ht => ?_⟩
          have ln : zs.length = i := by rw [s9.prs.len, hl]
          refine ⟨f, _, _, rfl, rfl, (sn.new ht).at_, (by omega), ?_⟩
          have sp := sn.push (p := (r5, if r5 + rr < 999999 then r5 + rr else 999999)) hf0 nf ht
          refine ⟨_, _, _, _, rfl, ⟨sp.but, sp.bag.mono (by omega), sp.at_, sp.prs⟩, by simp [hl], hv.app ⟨bg0, ?_, ?_⟩⟩
          · show r5 ≤ if r5 + rr < 999999 then r5 + rr else 999999
            split <;> omega
          · show (if r5 + rr < 999999 then r5 + rr else 999999) ≤ 999999
            split <;> omega
      · have bg0 := a9
        refine ⟨_, rfl, .inl ⟨rfl, _, SqL.of s8.at_⟩, _, rfl, _, rfl, _, rfl, _, rfl, b, _, _, rfl, s8.bag, by omega, l1, by omega, fun rr HH z1 z2 z3 z4 => ?_⟩
        have sn := s8.take nf z3 z4
        refine ⟨_, _, rfl, rfl, _, _, rfl, (show 2 ≤ sizeLine by decide), fun t ht => ?_⟩
        have ln : zs.length = i := by rw [s8.prs.len, hl]
        refine ⟨f, _, _, rfl, rfl, (sn.new ht).at_, (by omega), ?_⟩
        have sp := sn.push (p := (r5, if r5 + rr < 999999 then r5 + rr else 999999)) hf0 nf ht
        refine ⟨_, _, _, _, rfl, ⟨sp.but, sp.bag.mono (by omega), sp.at_, sp.prs⟩, by simp [hl], hv.app ⟨bg0, ?_, ?_⟩⟩
        · show r5 ≤ if r5 + rr < 999999 then r5 + rr else 999999
          split <;> omega
        · show (if r5 + rr < 999999 then r5 + rr else 999999) ≤ 999999
          split <;> omega
    · obtain ⟨zs, ps, v5, v6, rfl, st, hl, hv⟩ := h
      refine ⟨_, rfl, f, zs, rfl, .inl ⟨SqL.of st.at_, fun c hc => ?_⟩⟩
      have w1 : Same H' (upd H' c (.tup zs)) := Same.new (Same.refl _) hc
      exact k c ps _ (st.but.trans (But.of w1)) ((st.bag.same w1).mono (by omega)) ⟨zs, SqT.of upd_same, Prs.imp (fun _ _ z => z.same w1) st.prs⟩ hv (by omega)
end

/-! ### what is refused, of stretches that are none of it -/
theorem SqT.ty {K : PySem.W.Frag} {H : Hp} {a : Addr} {xs : List V} (h : SqT K H a xs) : TyX K H (.ref a) (.type "tuple") := by
  rcases h with (h | ⟨o, h⟩) | ⟨o, its, n, h1, h2, _⟩
  · exact .base (.tup h)
  · exact .fTuple h
  · exact .kTuple h1 h2
def spWhole : Sp := fun vs H Q _ => ∃ i : Int, vs = [.int i] ∧ Q (.bl true) H
def spWithin : Sp := fun vs H Q _ => ∃ i lo hi : Int, vs = [.int i, .int lo, .int hi] ∧ Q (.bl (decide (lo ≤ i) && decide (i ≤ hi))) H
def spNumber : Sp := fun vs H Q _ => ∃ i : Int, vs = [.int i] ∧ Q (.bl (decide (0 ≤ i) && decide (i ≤ 999999))) H
def spStretch (K : PySem.W.Frag) : Sp := fun vs H Q _ => ∃ (t : Addr) (lo hi : Int), vs = [.ref t] ∧ H t = some (.tup [.int lo, .int hi]) ∧ 0 ≤ lo ∧ lo ≤ hi ∧ hi ≤ 999999 ∧ Q (.bl true) H
def spRefuse (K : PySem.W.Frag) : Sp := fun vs H Q _ => ∃ (a : Addr) (ps : List (Int × Int)), vs = [.ref a] ∧ Rows K H a ps ∧ Valid ps ∧ ps.length ≤ 20 ∧ ∀ H', Same H H' → Q .non H'
section
variable {P : Program} {w : World} {K : PySem.W.Frag} {mg : Str → Option Value} {base : Heap}
theorem D_is_whole (Z : Zc K mg) : Dn P w K mg base CX0 "is_whole" 1 ["thing"] spWhole := by
  obtain ⟨fd, F⟩ := F_is_whole Z
  refine ⟨_, fd, Z.glo "is_whole", F.kp, F.bindsN (fun _ _ _ _ _ _ us hl => match us, hl with | [_], _ => rfl), F.ok sc_is_whole (fun vs H Q E h => ?_) (fun cdv A outer s H vs Q E hr h => ?_)⟩
  · obtain ⟨_, rfl, _⟩ := h
    rfl
  · obtain ⟨i, rfl, k⟩ := h
    refine ⟨_, PSs.nox (pss_one (ps_ret (pe_and (pe_callB call_isi (by rfl) (Z.free "isinstance") (by decide +kernel) (pa_cons (pv 0) (pa_cons (pe_bltn (v := .ty "int") (by rfl) (Z.free "int") (by decide +kernel) rfl) pa_nil))) (pe_one (pe_not (pe_callB call_isi (by rfl) (Z.free "isinstance") (by decide +kernel) (pa_cons (pv 0) (pa_cons (pe_bltn (v := .ty "bool") (by rfl) (Z.free "bool") (by decide +kernel) rfl) pa_nil)))))))), ?_⟩
    refine ⟨_, rfl, _, _, _, _, true, rfl, .ty "int", .base (.int i), kit_ty (by decide +kernel), true, rfl, ?_⟩
    exact ⟨_, rfl, _, _, _, _, false, rfl, .ty "bool", .base (.int i), kit_ty (by decide +kernel), false, rfl, k⟩
theorem D_is_whole_within (Z : Zc K mg) : Dn P w K mg base CX0 "is_whole_within" 2 ["thing", "low", "high"] spWithin := by
  have D_is_whole : Dn P w K mg base CX0 "is_whole" 1 ["thing"] spWhole := D_is_whole Z
  obtain ⟨fd, F⟩ := F_is_whole_within Z
  refine ⟨_, fd, Z.glo "is_whole_within", F.kp, F.bindsN (fun _ _ _ _ _ _ us hl => match us, hl with | [_, _, _], _ => rfl), F.ok sc_is_whole_within (fun vs H Q E h => ?_) (fun cdv A outer s H vs Q E hr h => ?_)⟩
  · obtain ⟨_, _, _, rfl, _⟩ := h
    rfl
  · obtain ⟨i, lo, hi, rfl, k⟩ := h
    refine ⟨_, PSs.nox (pss_one (ps_ret (pe_and (pe_d D_is_whole (hr.mono (by decide)) (by rfl) pass0 (pa_cons (pv 0) pa_nil)) (pe_one (pe_chain op_le op_le (pv 1) (pv 0) (pv 2)))))), ?_⟩
    refine ⟨_, rfl, i, rfl, true, rfl, _, rfl, _, rfl, _, _, rfl, rfl, _, rfl, ite2 (fun q => ?_) (fun q => ?_)⟩
    · refine ⟨_, rfl, _, _, rfl, rfl, ?_⟩
      rw [q, Bool.true_and] at k
      exact k
    · rw [Bool.not_eq_true] at q
      rw [q, Bool.false_and] at k
      exact k
theorem D_is_number (Z : Zc K mg) : Dn P w K mg base CX0 "is_number" 3 ["thing"] spNumber := by
  have D_is_whole_within : Dn P w K mg base CX0 "is_whole_within" 2 ["thing", "low", "high"] spWithin := D_is_whole_within Z
  obtain ⟨tTOP, g_TOP_NUMBER⟩ := Z.int "TOP_NUMBER" 999999
  obtain ⟨fd, F⟩ := F_is_number Z
  refine ⟨_, fd, Z.glo "is_number", F.kp, F.bindsN (fun _ _ _ _ _ _ us hl => match us, hl with | [_], _ => rfl), F.ok sc_is_number (fun vs H Q E h => ?_) (fun cdv A outer s H vs Q E hr h => ?_)⟩
  · obtain ⟨_, rfl, _⟩ := h
    rfl
  · obtain ⟨i, rfl, k⟩ := h
    refine ⟨_, PSs.nox (pss_one (ps_ret (pe_d D_is_whole_within (hr.mono (by decide)) (by rfl) pass0 (pa_cons (pv 0) (pa_cons pe_int (pa_cons (pe_glob (v := .int 999999) rfl g_TOP_NUMBER ⟨_, rfl⟩) pa_nil)))))), ?_⟩
    exact ⟨_, rfl, i, 0, 999999, rfl, k⟩
theorem D_is_stretch (Z : Zc K mg) : Dn P w K mg base CX0 "is_stretch" 4 ["thing"] (spStretch K) := by
  have D_is_number : Dn P w K mg base CX0 "is_number" 3 ["thing"] spNumber := D_is_number Z
  obtain ⟨fd, F⟩ := F_is_stretch Z
  refine ⟨_, fd, Z.glo "is_stretch", F.kp, F.bindsN (fun _ _ _ _ _ _ us hl => match us, hl with | [_], _ => rfl), F.ok sc_is_stretch (fun vs H Q E h => ?_) (fun cdv A outer s H vs Q E hr h => ?_)⟩
  · obtain ⟨_, _, _, rfl, _⟩ := h
    rfl
  · obtain ⟨t, lo, hi, rfl, ht, h1, h2, h3, k⟩ := h
    refine ⟨_, PSs.nox (pss_cons (ps_if (PW.pt (pw_or (pt_not (pt_val (pe_callB call_isi (by rfl) (Z.free "isinstance") (by decide +kernel) (pa_cons (pv 0) (pa_cons (pe_bltn (v := .ty "tuple") (by rfl) (Z.free "tuple") (by decide +kernel) rfl) pa_nil))))) (pw_or1 (pt_cmpR op_ne (pe_callB call_len_seq (by rfl) (Z.free "len") (by decide +kernel) (pa_cons (pv 0) pa_nil)) pe_int (nomark _))))) (pss_one (ps_ret pe_bl)) pss_nil)
      (pss_cons (ps_asg (pv 0) (pg_tup (by rfl) (pgs_cons (pg_name (i := 1) sc_is_stretch.nd rfl (Or.inl rfl)) (pgs_cons (pg_name (i := 2) sc_is_stretch.nd rfl (Or.inl rfl)) pgs_nil))))
      (pss_one (ps_ret (pe_and (pe_d D_is_number (hr.mono (by decide)) (by rfl) pass0 (pa_cons (pv 1) pa_nil)) (pe_and (pe_d D_is_number (hr.mono (by decide)) (by rfl) pass0 (pa_cons (pv 2) pa_nil)) (pe_one (pe_cmpR op_le (pv 1) (pv 2) (nomark _))))))))), ?_⟩
    refine ⟨_, rfl, _, _, _, _, true, rfl, .ty "tuple", .base (.tup ht), kit_ty (by decide +kernel), true, rfl, ?_⟩
    refine ⟨_, rfl, t, _, rfl, .inr (SqT.of ht), rfl, _, rfl, ?_⟩
    refine ⟨_, rfl, t, _, rfl, SqT.of ht, rfl, _, _, rfl, _, _, rfl, rfl, ?_⟩
    have e1 : (decide (0 ≤ lo) && decide (lo ≤ 999999)) = true := by rw [decide_eq_true h1, decide_eq_true (show lo ≤ 999999 by omega)]; rfl
    have e2 : (decide (0 ≤ hi) && decide (hi ≤ 999999)) = true := by rw [decide_eq_true (show 0 ≤ hi by omega), decide_eq_true h3]; rfl
    refine ⟨_, rfl, lo, rfl, true, by rw [e1], _, rfl, hi, rfl, true, by rw [e2], _, rfl, _, rfl, _, _, rfl, rfl, ?_⟩
    show Q (.bl (decide (lo ≤ hi))) H
    rw [decide_eq_true h2]
    exact k
theorem D_refuse (Z : Zc K mg) : Dn P w K mg base CX0 "refuse_wrong_stretches" 5 ["thing"] (spRefuse K) := by
  have D_is_stretch : Dn P w K mg base CX0 "is_stretch" 4 ["thing"] (spStretch K) := D_is_stretch Z
  obtain ⟨tM, g_MOST_STRETCHES⟩ := Z.int "MOST_STRETCHES" 20
  obtain ⟨fd, F⟩ := F_refuse_wrong_stretches Z
  refine ⟨_, fd, Z.glo "refuse_wrong_stretches", F.kp, F.bindsN (fun _ _ _ _ _ _ us hl => match us, hl with | [_], _ => rfl), F.ok sc_refuse_wrong_stretches (fun vs H Q E h => ?_) (fun cdv A outer s H vs Q E hr h => ?_)⟩
  · obtain ⟨_, _, rfl, _⟩ := h
    rfl
  · obtain ⟨a, ps, rfl, hR, hv, hl, k⟩ := h
    obtain ⟨xs, hs, hp⟩ := id hR
    refine ⟨_, PSs.nox (pss_cons (ps_if (PW.pt (pw_or (pt_not (pt_val (pe_callB call_isi (by rfl) (Z.free "isinstance") (by decide +kernel) (pa_cons (pv 0) (pa_cons (pe_bltn (v := .ty "tuple") (by rfl) (Z.free "tuple") (by decide +kernel) rfl) pa_nil))))) (pw_or1 (pt_cmpR op_gt (pe_callB call_len_seq (by rfl) (Z.free "len") (by decide +kernel) (pa_cons (pv 0) pa_nil)) (pe_glob (v := .int 20) rfl g_MOST_STRETCHES ⟨_, rfl⟩) (nomark _))))) (pss_one ps_never) pss_nil)
      (pss_one (ps_for PassesOwn.never rfl (pi_enumA (by rfl) (Z.free "enumerate") (pa_cons (pv 0) pa_nil)) (pg_tup (by rfl) (pgs_cons (pg_name (i := 1) sc_refuse_wrong_stretches.nd rfl (Or.inl rfl)) (pgs_cons (pg_name (i := 2) sc_refuse_wrong_stretches.nd rfl (Or.inl rfl)) pgs_nil)))
      (pss_one (ps_if (pt_not (pt_val (pe_d D_is_stretch (hr.mono (by decide)) (by rfl) pass0 (pa_cons (pv 2) pa_nil)))) (pss_one ps_never) pss_nil))))), ?_⟩
    refine ⟨_, rfl, _, _, _, _, true, rfl, .ty "tuple", SqT.ty hs, kit_ty (by decide +kernel), true, rfl, ?_⟩
    refine ⟨_, rfl, a, _, rfl, .inr hs, _, _, rfl, rfl, _, rfl, ?_⟩
    have e0 : decide ((20 : Int) < (xs.length : Int)) = false := decide_eq_false (by rw [hp.len]; omega)
    show if decide ((20 : Int) < (xs.length : Int)) = true then _ else _
    rw [e0]
    refine iteF ?_
    refine ⟨_, rfl, a, _, rfl, hs, for_enumT (xs := xs) (fun i σ H' => ∃ v1 v2 : Option V, σ = [some (.ref a), v1, v2] ∧ Same H H') ⟨none, none, rfl, Same.refl H⟩ (fun i σ H' _ ⟨_, _, _, h⟩ => Same.sqT h hs) (fun i x σ H' T hx h hT => ?_) (fun σ H' h => ?_)⟩
    · obtain ⟨v1, v2, rfl, s1⟩ := h
      obtain ⟨p, hpi, t, rfl, ht⟩ := hp.get hx
      have vp := hv p (List.mem_of_getElem? hpi)
      have s2 : Same H (upd H' T (.tup [.int (i : Nat), V.ref t])) := Same.new s1 hT
      refine ⟨T, _, rfl, SqT.of upd_same, rfl, _, _, rfl, _, _, rfl, rfl, ?_⟩
      refine ⟨_, rfl, t, p.1, p.2, rfl, s2 _ _ ht, vp.1, vp.2.1, vp.2.2, true, rfl, ?_⟩
      exact ⟨_, _, rfl, s2⟩
    · obtain ⟨v1, v2, rfl, s1⟩ := h
      exact k H' s1
end

/-! ### the program's own fewest -/
def stepM (acc : List (Int × Int)) (p : Int × Int) : List (Int × Int) := match acc.getLast? with
  | some l => if p.1 ≤ l.2 + 1 then acc.dropLast ++ [(l.1, if p.2 > l.2 then p.2 else l.2)] else acc ++ [p]
  | none => acc ++ [p]
def mergeR (qs : List (Int × Int)) : List (Int × Int) := qs.foldl stepM []
theorem mergeR_succ {qs : List (Int × Int)} {i : Nat} {p : Int × Int} (h : qs[i]? = some p) : mergeR (qs.take (i + 1)) = stepM (mergeR (qs.take i)) p := by
  unfold mergeR
  rw [List.take_add_one, h, List.foldl_append]
  rfl
theorem set_last {α : Type} {l : List α} (x : α) (h : l ≠ []) : l.set (l.length - 1) x = l.dropLast ++ [x] := by
  induction l with
  | nil => exact absurd rfl h
  | cons a t ih =>
    cases t with
    | nil => rfl
    | cons b u =>
      have q := ih (List.cons_ne_nil _ _)
      show (a :: b :: u).set ((b :: u).length - 1 + 1) x = a :: ((b :: u).dropLast ++ [x])
      rw [List.set_cons_succ, q]
theorem Prs.dropLast {H : Hp} : ∀ {xs : List V} {ps : List (Int × Int)}, Prs H xs ps → Prs H xs.dropLast ps.dropLast
  | _, _, .nil => .nil
  | _, _, .cons _ .nil => .nil
  | _, _, .cons a (.cons b c) => .cons a (Prs.dropLast (.cons b c))
/-- the pair that stands at v -/
def pairAt (H : Hp) (v : V) : Int × Int := match v with
  | .ref t => (match H t with
    | some (.tup [.int a, .int b]) => (a, b)
    | _ => (0, 0))
  | _ => (0, 0)
theorem Pr.at_ {H : Hp} {v : V} {p : Int × Int} (h : Pr H v p) : pairAt H v = p := by
  obtain ⟨t, rfl, q⟩ := h
  show (match H t with | some (.tup [.int a, .int b]) => (a, b) | _ => (0, 0)) = p
  rw [q]
theorem Prs.pairsAt {H : Hp} : ∀ {xs : List V} {ps : List (Int × Int)}, Prs H xs ps → xs.map (pairAt H) = ps
  | _, _, .nil => rfl
  | _, _, .cons a b => by rw [List.map_cons, a.at_, Prs.pairsAt b]
theorem Prs.mem {H : Hp} : ∀ {xs : List V} {ps : List (Int × Int)} {x : V}, Prs H xs ps → x ∈ xs → Pr H x (pairAt H x)
  | _, _, _, .nil, h => absurd h List.not_mem_nil
  | _, _, _, .cons a b, h => by
    rcases List.mem_cons.mp h with rfl | e
    · rw [a.at_]
      exact a
    · exact Prs.mem b e
theorem prs_of {H : Hp} : ∀ {xs : List V}, (∀ x ∈ xs, Pr H x (pairAt H x)) → Prs H xs (xs.map (pairAt H))
  | [], _ => .nil
  | x :: xs, h => .cons (h x List.mem_cons_self) (prs_of fun y hy => h y (List.mem_cons_of_mem _ hy))
theorem last_at {zs : List V} {z : V} (h : zs.getLast? = some z) : atI zs (-1) = some z := by
  have ne : zs ≠ [] := fun e => by rw [e] at h; cases h
  have pos := List.length_pos_iff.mpr ne
  show (ixN zs.length (-1)).bind (fun j => zs[j]?) = _
  have e : ixN zs.length (-1) = some (zs.length - 1) := by
    unfold ixN
    rw [if_neg (by decide), if_pos (by omega)]
    exact congrArg some (by omega)
  rw [e]
  rw [List.getLast?_eq_getElem?] at h
  exact h
theorem Prs.last {H : Hp} {xs : List V} {ps : List (Int × Int)} {l : Int × Int} (h : Prs H xs ps) (e : ps.getLast? = some l) : ∃ t, xs.getLast? = some (.ref t) ∧ H t = some (.tup [.int l.1, .int l.2]) := by
  rw [List.getLast?_eq_getElem?] at e
  have hl := h.len
  have lt : ps.length - 1 < xs.length := by
    have := (List.getElem?_eq_some_iff.mp e).1
    omega
  obtain ⟨p, h1, t, h2, h3⟩ := h.get (List.getElem?_eq_getElem lt)
  rw [h1] at e
  cases e
  refine ⟨t, ?_, h3⟩
  rw [List.getLast?_eq_getElem?, hl, List.getElem?_eq_getElem lt, h2]
def lexS (qs : List (Int × Int)) : Prop := qs.Pairwise fun a b => a.1 ≤ b.1
def spFew (K : PySem.W.Frag) : Sp := fun vs H Q _ => ∃ (a : Addr) (ps : List (Int × Int)), vs = [.ref a] ∧ Rows K H a ps ∧ ps.length ≤ 1000 ∧ ∀ (c : Addr) (qs : List (Int × Int)) (H' : Hp), Same H H' → qs.Perm ps → lexS qs → Rows K H' c (mergeR qs) → Q (.ref c) H'
section
variable {P : Program} {w : World} {K : PySem.W.Frag} {mg : Str → Option Value} {base : Heap}
theorem D_fewest (Z : Zc K mg) : Dn P w K mg base CX0 "fewest" 1 ["pairs"] (spFew K) := by
  obtain ⟨fd, F⟩ := F_fewest Z
  refine ⟨_, fd, Z.glo "fewest", F.kp, F.bindsN (fun _ _ _ _ _ _ us hl => match us, hl with | [_], _ => rfl), F.ok sc_fewest (fun vs H Q E h => ?_) (fun cdv A outer s H vs Q E hr h => ?_)⟩
  · obtain ⟨_, _, rfl, _⟩ := h
    rfl
  · obtain ⟨a, ps, rfl, ⟨xs, hs, hp⟩, hl, k⟩ := h
    have sz : sizeLine = 16777216 := sizeLine_eq
    refine ⟨_, PSs.nox (pss_cons (ps_set (i := 1) sc_fewest.nd rfl (Or.inl rfl) (pe_lst pa_nil))
      (pss_cons (ps_for PassesOwn.never rfl (pi_list (pe_callB cr_sortedPT (by rfl) (Z.free "sorted") (by decide +kernel) (pa_cons (pv 0) pa_nil))) (pg_tup (by rfl) (pgs_cons (pg_name (i := 2) sc_fewest.nd rfl (Or.inl rfl)) (pgs_cons (pg_name (i := 3) sc_fewest.nd rfl (Or.inl rfl)) pgs_nil)))
      (pss_one (ps_if (PW.pt (pw_and (pt_truth (pv 1) (by intro _; rfl)) (pw_and1 (pt_cmpR op_le (pv 2) (pe_op op_add (pe_ix ix_tup (pe_ix ix_list (pv 1) (pe_un un_neg pe_int) (fun _ _ => rfl)) pe_int (fun _ _ => rfl)) pe_int) (nomark _))))) (pss_one (ps_asg (pe_tup (pa_cons (pe_ix ix_tup (pe_ix ix_list (pv 1) (pe_un un_neg pe_int) (fun _ _ => rfl)) pe_int (fun _ _ => rfl)) (pa_cons (pe_callB (call_max2 rfl) (by rfl) (Z.free "max") (by decide +kernel) (pa_cons (pe_ix ix_tup (pe_ix ix_list (pv 1) (pe_un un_neg pe_int) (fun _ _ => rfl)) pe_int (fun _ _ => rfl)) (pa_cons (pv 3) pa_nil))) pa_nil))) (pg_sub (pv 1) (pe_un un_neg pe_int) set_list))) (pss_one (ps_expr (pe_bm PySem.F.plainAttrs_list PySem.F.slot_list_append PySem.F.type_list_append mt_append (pv 1) (pa_cons (pe_tup (pa_cons (pv 2) (pa_cons (pv 3) pa_nil))) pa_nil)))))))
      (pss_one (ps_ret (pe_callTy call_tuple_of (by rfl) (Z.free "tuple") (by decide +kernel) (pa_cons (pv 1) pa_nil)))))), ?_⟩
    refine ⟨Nat.zero_le _, fun f hf => ?_⟩
    have s1 : Same H (upd H f (.lst [])) := Same.new (Same.refl H) hf
    refine ⟨_, rfl, a, xs, pairAt H, rfl, Same.sqT s1 hs, fun x hx => ?_, fun ys p srt stb hp1 => ?_⟩
    · obtain ⟨t, e, q⟩ := hp.mem hx
      exact ⟨t, e, s1 _ _ q⟩
    have s2 : Same H (upd (upd H f (.lst [])) p (.lst ys)) := Same.new s1 hp1
    have perm : (ys.map (pairAt H)).Perm ps := by
      have q := stb.perm.map (pairAt H)
      rw [hp.pairsAt] at q
      exact q
    have hy : ∀ y ∈ ys, Pr H y (pairAt H y) := fun y hy => hp.mem (stb.perm.mem_iff.mp hy)
    have lx : lexS (ys.map (pairAt H)) := by
      refine List.pairwise_map.mpr (List.Pairwise.imp (fun {x y} h => ?_) srt)
      have q := SrtO.lexB_no.mp h
      omega
    generalize hq : ys.map (pairAt H) = qs at perm lx
    have ly : ys.length = qs.length := by rw [← hq, List.length_map]
    have lq : qs.length ≤ 1000 := by rw [perm.length_eq]; exact hl
    have nfp : f ≠ p := fun z => by
      rw [← z, upd_same] at hp1
      cases hp1
    refine ⟨p, rfl, ⟨_, SqL.of upd_same⟩, for_it walk_list (fun i σ H' => ∃ (zs : List V) (v2 v3 : Option V), σ = [some (.ref a), some (.ref f), v2, v3] ∧ Same H H' ∧ H' p = some (.lst ys) ∧ H' f = some (.lst zs) ∧ Prs H' zs (mergeR (qs.take i)) ∧ zs.length ≤ i)
      ⟨[], none, none, rfl, s2, upd_same, by rw [upd_ne nfp, upd_same], .nil, Nat.le_refl _⟩ (fun i σ H' _ ⟨_, _, _, _, _, q, _⟩ => SqL.of q) (fun i x σ H0' H' hi h y => ?_) (fun σ H' h => ?_)⟩
    · obtain ⟨rfl, hx⟩ := y
      obtain ⟨zs, v2, v3, rfl, s3, hpy, hfz, hz, lz⟩ := h
      obtain ⟨t, et, q0⟩ := hy x (List.mem_of_getElem? hx)
      have hpi : qs[i]? = some (pairAt H x) := by rw [← hq, List.getElem?_map, hx]; rfl
      generalize pairAt H x = pr at q0 hpi
      subst et
      refine ⟨t, _, rfl, SqT.of (s3 _ _ q0), rfl, _, _, rfl, _, _, rfl, rfl, ?_⟩
      refine ⟨_, rfl, _, .inl ⟨zs, SqL.of hfz, rfl⟩, ?_⟩
      have hm := mergeR_succ hpi
      refine ite2 (fun q => ?_) (fun q => ?_)
      · -- there is a last one
        have mne : mergeR (qs.take i) ≠ [] := fun z => by
          have := hz.len
          rw [z] at this
          rw [List.length_eq_zero_iff.mp this] at q
          exact absurd q (by decide)
        obtain ⟨l, hl1⟩ : ∃ l, (mergeR (qs.take i)).getLast? = some l := ⟨_, List.getLast?_eq_getLast mne⟩
        obtain ⟨tl, htl, hl2⟩ := hz.last hl1
        refine ⟨_, rfl, _, rfl, _, rfl, f, _, _, _, rfl, rfl, SqL.of hfz, last_at htl, tl, _, _, _, rfl, rfl, SqT.of hl2, rfl, _, _, rfl, rfl, _, _, rfl, rfl, _, rfl, ?_⟩
        refine ite2 (fun q2 => ?_) (fun q2 => ?_)
        · have q3 : pr.1 ≤ l.2 + 1 := of_decide_eq_true q2
          refine ⟨_, rfl, _, rfl, f, _, _, _, rfl, rfl, SqL.of hfz, last_at htl, tl, _, _, _, rfl, rfl, SqT.of hl2, rfl, ?_⟩
          refine ⟨_, rfl, _, rfl, f, _, _, _, rfl, rfl, SqL.of hfz, last_at htl, tl, _, _, _, rfl, rfl, SqT.of hl2, rfl, _, rfl, _, _, rfl, ?_⟩
          refine ⟨(show 2 ≤ sizeLine by decide), fun t2 ht2 => ?_⟩
          have w2 : Same H' (upd H' t2 (.tup [V.int l.1, V.int (if pr.2 > l.2 then pr.2 else l.2)])) := Same.new (Same.refl _) ht2
          have zne : zs ≠ [] := fun z => by rw [z] at htl; cases htl
          have pos := List.length_pos_iff.mpr zne
          have ix : ixN zs.length (-1) = some (zs.length - 1) := by
            unfold ixN
            rw [if_neg (by decide), if_pos (by omega)]
            exact congrArg some (by omega)
          refine ⟨_, rfl, _, rfl, f, _, _, _, rfl, rfl, w2 _ _ hfz, ix, ?_⟩
          have e1 : mergeR (qs.take (i + 1)) = (mergeR (qs.take i)).dropLast ++ [(l.1, if pr.2 > l.2 then pr.2 else l.2)] := by
            rw [hm]
            unfold stepM
            rw [hl1]
            exact if_pos q3
          have hf2 := w2 _ _ hfz
          have ht3 : (upd H' t2 (.tup [V.int l.1, V.int (if pr.2 > l.2 then pr.2 else l.2)])) t2 = _ := upd_same
          have hp2 := w2 _ _ hpy
          have s4 : Same H (upd H' t2 (.tup [V.int l.1, V.int (if pr.2 > l.2 then pr.2 else l.2)])) := s3.trans w2
          have hz2 := Prs.imp (fun _ _ z => z.same w2) hz
          generalize upd H' t2 _ = H4 at hf2 ht3 hp2 s4 hz2
          have b4 : But f H4 (upd H4 f (.lst (zs.set (zs.length - 1) (.ref t2)))) := But.upd _ _ _
          refine ⟨_, _, _, rfl, fun a o e => ?_, ?_, upd_same, ?_, ?_⟩
          · rw [upd_ne (ne_of_none e hf)]
            exact s4 _ _ e
          · rw [upd_ne nfp.symm]
            exact hp2
          · rw [set_last _ zne] at b4 ⊢
            rw [e1]
            exact Prs.app (Prs.imp (fun _ _ z => z.but hf2 b4) hz2).dropLast (.cons (Pr.but ⟨t2, rfl, ht3⟩ hf2 b4) .nil)
          · rw [List.length_set]
            omega
        · have e1 : mergeR (qs.take (i + 1)) = mergeR (qs.take i) ++ [pr] := by
            rw [hm]
            unfold stepM
            rw [hl1]
            exact if_neg (fun z => q2 (decide_eq_true z))
          refine ⟨_, rfl, .inl ⟨rfl, _, SqL.of hfz⟩, _, rfl, _, rfl, (show 2 ≤ sizeLine by decide), fun t2 ht2 => ?_⟩
          have w2 : Same H' (upd H' t2 (.tup [V.int pr.1, V.int pr.2])) := Same.new (Same.refl _) ht2
          refine ⟨f, _, _, rfl, rfl, w2 _ _ hfz, (by omega), ?_⟩
          have hf2 := w2 _ _ hfz
          have ht3 : (upd H' t2 (.tup [V.int pr.1, V.int pr.2])) t2 = _ := upd_same
          have hp2 := w2 _ _ hpy
          have s4 : Same H (upd H' t2 (.tup [V.int pr.1, V.int pr.2])) := s3.trans w2
          have hz2 := Prs.imp (fun _ _ z => z.same w2) hz
          generalize upd H' t2 _ = H4 at hf2 ht3 hp2 s4 hz2
          have b4 : But f H4 (upd H4 f (.lst (zs ++ [.ref t2]))) := But.upd _ _ _
          refine ⟨_, _, _, rfl, fun a o e => ?_, ?_, upd_same, ?_, ?_⟩
          · rw [upd_ne (ne_of_none e hf)]
            exact s4 _ _ e
          · rw [upd_ne nfp.symm]
            exact hp2
          · rw [e1]
            exact Prs.app (Prs.imp (fun _ _ z => z.but hf2 b4) hz2) (.cons (Pr.but ⟨t2, rfl, ht3⟩ hf2 b4) .nil)
          · rw [List.length_append]
            show zs.length + 1 ≤ i + 1
            omega
      · have mn : mergeR (qs.take i) = [] := by
          have := hz.len
          cases zs with
          | nil => exact List.length_eq_zero_iff.mp this.symm
          | cons z zs => exact absurd rfl q
        have e1 : mergeR (qs.take (i + 1)) = mergeR (qs.take i) ++ [pr] := by
          rw [hm]
          unfold stepM
          rw [mn]
          rfl
        refine ⟨_, rfl, .inl ⟨rfl, _, SqL.of hfz⟩, _, rfl, _, rfl, (show 2 ≤ sizeLine by decide), fun t2 ht2 => ?_⟩
        have w2 : Same H' (upd H' t2 (.tup [V.int pr.1, V.int pr.2])) := Same.new (Same.refl _) ht2
        refine ⟨f, _, _, rfl, rfl, w2 _ _ hfz, (by omega), ?_⟩
        have hf2 := w2 _ _ hfz
        have ht3 : (upd H' t2 (.tup [V.int pr.1, V.int pr.2])) t2 = _ := upd_same
        have hp2 := w2 _ _ hpy
        have s4 : Same H (upd H' t2 (.tup [V.int pr.1, V.int pr.2])) := s3.trans w2
        have hz2 := Prs.imp (fun _ _ z => z.same w2) hz
        generalize upd H' t2 _ = H4 at hf2 ht3 hp2 s4 hz2
        have b4 : But f H4 (upd H4 f (.lst (zs ++ [.ref t2]))) := But.upd _ _ _
        refine ⟨_, _, _, rfl, fun a o e => ?_, ?_, upd_same, ?_, ?_⟩
        · rw [upd_ne (ne_of_none e hf)]
          exact s4 _ _ e
        · rw [upd_ne nfp.symm]
          exact hp2
        · rw [e1]
          exact Prs.app (Prs.imp (fun _ _ z => z.but hf2 b4) hz2) (.cons (Pr.but ⟨t2, rfl, ht3⟩ hf2 b4) .nil)
        · rw [List.length_append]
          show zs.length + 1 ≤ i + 1
          omega
    · obtain ⟨zs, v2, v3, rfl, s3, hpy, hfz, hz, lz⟩ := h
      refine ⟨_, rfl, f, zs, rfl, .inl ⟨SqL.of hfz, fun c hc => ?_⟩⟩
      have w1 : Same H' (upd H' c (.tup zs)) := Same.new (Same.refl _) hc
      rw [ly, List.take_length] at hz
      exact k c qs _ (s3.trans w1) perm lx ⟨zs, SqT.of upd_same, Prs.imp (fun _ _ z => z.same w1) hz⟩
end

/-! ### the program's fewest and the law's are the same -/
def Sep (l : List (Int × Int)) : Prop := l.Pairwise (fun a b => a.2 + 1 < b.1) ∧ ∀ a ∈ l, a.1 ≤ a.2
structure MInv (done out : List (Int × Int)) : Prop where
  sep : Sep out
  cov : ∀ n, hasR out n = hasR done n
  lo : ∀ o ∈ out, ∃ p ∈ done, p.1 = o.1
  hi : ∀ o ∈ out, ∃ p ∈ done, p.2 = o.2
theorem hasR_iff {ps : List (Int × Int)} {n : Int} : hasR ps n = true ↔ ∃ p ∈ ps, p.1 ≤ n ∧ n ≤ p.2 := by
  unfold hasR inR
  rw [List.any_eq_true]
  constructor
  · rintro ⟨p, h1, h2⟩
    rw [Bool.and_eq_true, decide_eq_true_iff, decide_eq_true_iff] at h2
    exact ⟨p, h1, h2⟩
  · rintro ⟨p, h1, h2⟩
    exact ⟨p, h1, by rw [Bool.and_eq_true, decide_eq_true_iff, decide_eq_true_iff]; exact h2⟩
theorem hasR_app (a b : List (Int × Int)) (n : Int) : hasR (a ++ b) n = (hasR a n || hasR b n) := by
  unfold hasR
  exact List.any_append
theorem hasR_one (p : Int × Int) (n : Int) : hasR [p] n = inR p n := by simp [hasR]
theorem bool_eq {a b : Bool} (h : a = true ↔ b = true) : a = b := by
  cases a <;> cases b <;> simp_all
theorem inR_iff {p : Int × Int} {n : Int} : inR p n = true ↔ p.1 ≤ n ∧ n ≤ p.2 := by
  unfold inR
  rw [Bool.and_eq_true, decide_eq_true_iff, decide_eq_true_iff]
theorem MInv.step {done out : List (Int × Int)} {p : Int × Int} (I : MInv done out) (hp : p.1 ≤ p.2) (hs : ∀ q ∈ done, q.1 ≤ p.1) : MInv (done ++ [p]) (stepM out p) := by
  have push : (∀ o ∈ out, o.2 + 1 < p.1) → MInv (done ++ [p]) (out ++ [p]) := fun far => by
    refine ⟨⟨List.pairwise_append.mpr ⟨I.sep.1, List.pairwise_singleton _ _, fun a ha b hb => by rw [List.mem_singleton.mp hb]; exact far a ha⟩, fun a ha => ?_⟩, fun n => ?_, fun o ho => ?_, fun o ho => ?_⟩
    · rcases List.mem_append.mp ha with h | h
      · exact I.sep.2 a h
      · rw [List.mem_singleton.mp h]
        exact hp
    · rw [hasR_app, hasR_app, I.cov]
    · rcases List.mem_append.mp ho with h | h
      · obtain ⟨q, h1, h2⟩ := I.lo o h
        exact ⟨q, List.mem_append_left _ h1, h2⟩
      · exact ⟨p, List.mem_append_right _ List.mem_cons_self, by rw [List.mem_singleton.mp h]⟩
    · rcases List.mem_append.mp ho with h | h
      · obtain ⟨q, h1, h2⟩ := I.hi o h
        exact ⟨q, List.mem_append_left _ h1, h2⟩
      · exact ⟨p, List.mem_append_right _ List.mem_cons_self, by rw [List.mem_singleton.mp h]⟩
  unfold stepM
  cases e : out.getLast? with
  | none =>
    refine push fun o ho => ?_
    rw [List.getLast?_eq_none_iff.mp e] at ho
    exact absurd ho List.not_mem_nil
  | some l =>
    obtain ⟨ini, rfl⟩ : ∃ ini, out = ini ++ [l] := by
      obtain ⟨ys, h⟩ := List.getLast?_eq_some_iff.mp e
      exact ⟨ys, h⟩
    obtain ⟨s1, _, s3⟩ := List.pairwise_append.mp I.sep.1
    have ll : l.1 ≤ l.2 := I.sep.2 l (List.mem_append_right _ List.mem_cons_self)
    obtain ⟨q, hq1, hq2⟩ := I.lo l (List.mem_append_right _ List.mem_cons_self)
    have lp : l.1 ≤ p.1 := by rw [← hq2]; exact hs q hq1
    show MInv _ (if p.1 ≤ l.2 + 1 then (ini ++ [l]).dropLast ++ [(l.1, if p.2 > l.2 then p.2 else l.2)] else ini ++ [l] ++ [p])
    by_cases c : p.1 ≤ l.2 + 1
    · rw [if_pos c, List.dropLast_concat]
      have mx : ∃ m, m = (if p.2 > l.2 then p.2 else l.2) ∧ l.2 ≤ m ∧ p.2 ≤ m ∧ (m = p.2 ∨ m = l.2) := ⟨_, rfl, by split <;> omega, by split <;> omega, by split <;> simp⟩
      obtain ⟨m, em, m1, m2, m3⟩ := mx
      rw [← em]
      refine ⟨⟨List.pairwise_append.mpr ⟨s1, List.pairwise_singleton _ _, fun a ha b hb => by rw [List.mem_singleton.mp hb]; exact s3 a ha l List.mem_cons_self⟩, fun a ha => ?_⟩, fun n => ?_, fun o ho => ?_, fun o ho => ?_⟩
      · rcases List.mem_append.mp ha with h | h
        · exact I.sep.2 a (List.mem_append_left _ h)
        · rw [List.mem_singleton.mp h]
          show l.1 ≤ m
          omega
      · have cv := I.cov n
        rw [hasR_app, hasR_one] at cv
        rw [hasR_app, hasR_app, hasR_one, hasR_one, ← cv, Bool.or_assoc]
        congr 1
        refine bool_eq ?_
        rw [Bool.or_eq_true, inR_iff, inR_iff, inR_iff]
        show l.1 ≤ n ∧ n ≤ m ↔ _
        rcases m3 with z | z <;> omega
      · rcases List.mem_append.mp ho with h | h
        · obtain ⟨q, h1, h2⟩ := I.lo o (List.mem_append_left _ h)
          exact ⟨q, List.mem_append_left _ h1, h2⟩
        · rw [List.mem_singleton.mp h]
          exact ⟨q, List.mem_append_left _ hq1, hq2⟩
      · rcases List.mem_append.mp ho with h | h
        · obtain ⟨q, h1, h2⟩ := I.hi o (List.mem_append_left _ h)
          exact ⟨q, List.mem_append_left _ h1, h2⟩
        · rw [List.mem_singleton.mp h]
          rcases m3 with z | z
          · exact ⟨p, List.mem_append_right _ List.mem_cons_self, z.symm⟩
          · obtain ⟨q', h1, h2⟩ := I.hi l (List.mem_append_right _ List.mem_cons_self)
            exact ⟨q', List.mem_append_left _ h1, by rw [h2]; exact z.symm⟩
    · rw [if_neg c]
      refine push fun o ho => ?_
      rcases List.mem_append.mp ho with h | h
      · have := s3 o h l List.mem_cons_self
        omega
      · rw [List.mem_singleton.mp h]
        omega
theorem MInv.fold : ∀ (rest done out : List (Int × Int)), MInv done out → lexS (done ++ rest) → (∀ p ∈ rest, p.1 ≤ p.2) → MInv (done ++ rest) (rest.foldl stepM out)
  | [], done, out, I, _, _ => by rw [List.append_nil]; exact I
  | p :: rest, done, out, I, hs, hv => by
    have e : done ++ p :: rest = (done ++ [p]) ++ rest := by simp
    have s1 := List.pairwise_append.mp hs
    rw [e] at hs ⊢
    exact MInv.fold rest (done ++ [p]) (stepM out p) (I.step (hv p List.mem_cons_self) fun q hq => s1.2.2 q hq p List.mem_cons_self) hs fun q hq => hv q (List.mem_cons_of_mem _ hq)
theorem merge_inv {qs : List (Int × Int)} (hs : lexS qs) (hv : ∀ p ∈ qs, p.1 ≤ p.2) : MInv qs (mergeR qs) :=
  MInv.fold qs [] [] ⟨⟨List.Pairwise.nil, fun a h => absurd h List.not_mem_nil⟩, fun _ => rfl, fun o h => absurd h List.not_mem_nil, fun o h => absurd h List.not_mem_nil⟩ hs hv
theorem hasR_perm {ps qs : List (Int × Int)} (h : qs.Perm ps) (n : Int) : hasR qs n = hasR ps n := bool_eq (by
  rw [hasR_iff, hasR_iff]
  exact ⟨fun ⟨p, a, b⟩ => ⟨p, h.mem_iff.mp a, b⟩, fun ⟨p, a, b⟩ => ⟨p, h.mem_iff.mpr a, b⟩⟩)
theorem Sep.fst {l : List (Int × Int)} (h : Sep l) : (l.map (·.1)).Pairwise (· < ·) := by
  refine List.pairwise_map.mpr (List.Pairwise.imp_of_mem (fun {a b} ha hb q => ?_) h.1)
  have := h.2 a ha
  omega
theorem Sep.snd {l : List (Int × Int)} (h : Sep l) : (l.map (·.2)).Pairwise (· < ·) := by
  refine List.pairwise_map.mpr (List.Pairwise.imp_of_mem (fun {a b} ha hb q => ?_) h.1)
  have := h.2 b hb
  omega
/-- of what is separate: what lies right ahead of a low, right behind a high isn't there -/
theorem Sep.ahead : ∀ {l : List (Int × Int)} {o : Int × Int}, Sep l → o ∈ l → hasR l (o.1 - 1) = false ∧ hasR l (o.2 + 1) = false := fun {l o} h ho => by
  have key : ∀ q ∈ l, q = o ∨ q.2 + 1 < o.1 ∨ o.2 + 1 < q.1 := fun q hq => by
    obtain ⟨i, hi, ei⟩ := List.mem_iff_getElem.mp hq
    obtain ⟨j, hj, ej⟩ := List.mem_iff_getElem.mp ho
    rcases Nat.lt_trichotomy i j with c | c | c
    · exact .inr (.inl (by rw [← ei, ← ej]; exact List.pairwise_iff_getElem.mp h.1 i j hi hj c))
    · subst c
      exact .inl (ei.symm.trans ej)
    · exact .inr (.inr (by rw [← ei, ← ej]; exact List.pairwise_iff_getElem.mp h.1 j i hj hi c))
  have ov := h.2 o ho
  constructor
  · cases e : hasR l (o.1 - 1) with
    | false => rfl
    | true =>
      obtain ⟨q, hq, h1, h2⟩ := hasR_iff.mp e
      have := h.2 q hq
      rcases key q hq with rfl | c | c <;> omega
  · cases e : hasR l (o.2 + 1) with
    | false => rfl
    | true =>
      obtain ⟨q, hq, h1, h2⟩ := hasR_iff.mp e
      have := h.2 q hq
      rcases key q hq with rfl | c | c <;> omega
theorem zip_maps (l : List (Int × Int)) : (l.map (·.1)).zip (l.map (·.2)) = l := by
  induction l with
  | nil => rfl
  | cons a t ih =>
    rw [List.map_cons, List.map_cons, List.zip_cons_cons, ih]
/-- what is separate, has the numbers of ps, and takes its ends from ps, is the law's fewest of ps -/
theorem few_of {ps out : List (Int × Int)} (hv : ∀ p ∈ ps, p.1 ≤ p.2) (I : MInv ps out) : fewR ps = out := by
  have e1 : lowsR ps = out.map (·.1) := by
    refine inc_uniq (inc_sortU _) I.sep.fst fun k => ?_
    show k ∈ sortU _ ↔ _
    rw [mem_sortU, List.mem_filterMap, List.mem_map]
    constructor
    · rintro ⟨p, hp, h⟩
      unfold lowR at h
      split at h
      · cases h
      · rename_i c
        cases h
        have h1 : hasR out p.1 = true := by rw [I.cov]; exact hasR_iff.mpr ⟨p, hp, Int.le_refl _, hv p hp⟩
        obtain ⟨o, ho, h2, h3⟩ := hasR_iff.mp h1
        refine ⟨o, ho, ?_⟩
        rcases Int.lt_or_le o.1 p.1 with z | z
        · refine absurd ?_ c
          rw [← I.cov]
          exact hasR_iff.mpr ⟨o, ho, by omega, by omega⟩
        · omega
    · rintro ⟨o, ho, rfl⟩
      obtain ⟨p, hp, e⟩ := I.lo o ho
      refine ⟨p, hp, ?_⟩
      unfold lowR
      rw [e, if_neg]
      rw [← I.cov, (I.sep.ahead ho).1]
      decide
  have e2 : highsR ps = out.map (·.2) := by
    refine inc_uniq (inc_sortU _) I.sep.snd fun k => ?_
    show k ∈ sortU _ ↔ _
    rw [mem_sortU, List.mem_filterMap, List.mem_map]
    constructor
    · rintro ⟨p, hp, h⟩
      unfold highR at h
      split at h
      · cases h
      · rename_i c
        cases h
        have h1 : hasR out p.2 = true := by rw [I.cov]; exact hasR_iff.mpr ⟨p, hp, hv p hp, Int.le_refl _⟩
        obtain ⟨o, ho, h2, h3⟩ := hasR_iff.mp h1
        refine ⟨o, ho, ?_⟩
        rcases Int.lt_or_le p.2 o.2 with z | z
        · refine absurd ?_ c
          rw [← I.cov]
          exact hasR_iff.mpr ⟨o, ho, by omega, by omega⟩
        · omega
    · rintro ⟨o, ho, rfl⟩
      obtain ⟨p, hp, e⟩ := I.hi o ho
      refine ⟨p, hp, ?_⟩
      unfold highR
      rw [e, if_neg]
      rw [← I.cov, (I.sep.ahead ho).2]
      decide
  unfold fewR
  rw [e1, e2, zip_maps]
theorem MInv.perm {ps qs out : List (Int × Int)} (I : MInv qs out) (h : qs.Perm ps) : MInv ps out :=
  ⟨I.sep, fun n => (I.cov n).trans (hasR_perm h n), fun o ho => let ⟨p, a, b⟩ := I.lo o ho; ⟨p, h.mem_iff.mp a, b⟩, fun o ho => let ⟨p, a, b⟩ := I.hi o ho; ⟨p, h.mem_iff.mp a, b⟩⟩
theorem merge_few {ps qs : List (Int × Int)} (hv : ∀ p ∈ ps, p.1 ≤ p.2) (hp : qs.Perm ps) (hs : lexS qs) : mergeR qs = fewR ps :=
  (few_of hv ((merge_inv hs fun p h => hv p (hp.mem_iff.mp h)).perm hp)).symm
theorem few_inv {ps : List (Int × Int)} (hv : ∀ p ∈ ps, p.1 ≤ p.2) : MInv ps (fewR ps) := by
  obtain ⟨qs, hp, hs⟩ : ∃ qs, qs.Perm ps ∧ lexS qs := by
    refine ⟨ps.mergeSort (fun a b => decide (a.1 ≤ b.1)), List.mergeSort_perm _ _, ?_⟩
    have q := List.pairwise_mergeSort (le := fun a b : Int × Int => decide (a.1 ≤ b.1)) (fun a b c h1 h2 => by simp at *; omega) (fun a b => by simp; omega) ps
    exact List.Pairwise.imp (fun h => of_decide_eq_true h) q
  rw [← merge_few hv hp hs]
  exact (merge_inv hs fun p h => hv p (hp.mem_iff.mp h)).perm hp

/-! ### pools -/
abbrev pf (c : Addr) : List (Str × V) := [("pairs", V.ref c)]
/-- at x: a pool whose stretches are out -/
def PoolAt (K : PySem.W.Frag) (H : Hp) (x : Addr) (out : List (Int × Int)) : Prop := ∃ dx c, H x = some (.ins (He.ga K "Pool") dx (pf c)) ∧ Rows K H c out
theorem PoolAt.same {K : PySem.W.Frag} {H H' : Hp} {x : Addr} {out : List (Int × Int)} (h : PoolAt K H x out) (s : Same H H') : PoolAt K H' x out := let ⟨dx, c, e, r⟩ := h; ⟨dx, c, s _ _ e, r.same s⟩
theorem PoolAt.but {K : PySem.W.Frag} {H H' : Hp} {x b : Addr} {out : List (Int × Int)} {l : List V} (h : PoolAt K H x out) (hb : H b = some (.lst l)) (s : But b H H') : PoolAt K H' x out := let ⟨dx, c, e, r⟩ := h; ⟨dx, c, s _ _ (ne_of e hb (by intro z; cases z)) e, r.but hb s⟩
def spInit (K : PySem.W.Frag) : Sp := fun vs H Q _ => ∃ (x dx a : Addr) (ps : List (Int × Int)), vs = [.ref x, .ref a] ∧ H x = some (.ins (He.ga K "Pool") dx []) ∧ Rows K H a ps ∧ Valid ps ∧ ps.length ≤ 20 ∧ ∀ H', But x H H' → PoolAt K H' x (fewR ps) → Q .non H'
def spStretches (K : PySem.W.Frag) : Sp := fun vs H Q _ => ∃ (x : Addr) (out : List (Int × Int)), vs = [.ref x] ∧ PoolAt K H x out ∧ ∀ c, Rows K H c out → Q (.ref c) H
section
variable {P : Program} {w : World} {K : PySem.W.Frag} {mg : Str → Option Value} {base : Heap}
theorem pool_initF (Z : Zc K mg) : ∃ fd, FunD K "__init__" "Pool.__init__" (defArgs s_PoolD_initD) (defBody s_PoolD_initD) (defScope s_PoolD_initD) [He.Dv.v K (.adr (He.dflAt ("Pool", some "__init__") 0))] [] (He.ma K (He.ga K "Pool") "__init__") fd ∧ FnOk P w K mg base CX0 6 (He.ma K (He.ga K "Pool") "__init__") fd ["self", "stretches"] (spInit K) ∧ Binds K fd ["self", "stretches"] [] ∧
    ∃ ds, Vals [V.ref (He.dflAt ("Pool", some "__init__") 0 K)] ds ∧ Binds K fd ["self", "stretches"] ds := by
  have D_refuse_wrong_stretches : Dn P w K mg base CX0 "refuse_wrong_stretches" 5 ["thing"] (spRefuse K) := D_refuse Z
  have D_fewest : Dn P w K mg base CX0 "fewest" 1 ["pairs"] (spFew K) := D_fewest Z
  obtain ⟨fd, F⟩ := F_PoolD_initD Z
  obtain ⟨ds1, v1, b1⟩ := F.binds1 (ps := ["self", "stretches"]) 2 1 (List.cons_ne_nil _ _) rfl fun T kV doc pm an cdv ct us its hu hi => match us, hu, its, hi with | [_, _], _, [_], _ => ⟨_, rfl, rfl⟩
  obtain ⟨ds0, v0, b0⟩ := F.binds1 (ps := ["self", "stretches"]) 1 0 (List.cons_ne_nil _ _) rfl fun T kV doc pm an cdv ct us its hu hi => match us, hu, its, hi with | [_], _, [_], _ => ⟨_, rfl, rfl⟩
  cases v1
  refine ⟨fd, F, F.ok sc_PoolD_initD (fun vs H Q E h => ?_) (fun cdv A outer s H vs Q E hr h => ?_), b1, ds0, v0, b0⟩
  · obtain ⟨_, _, _, _, rfl, _⟩ := h
    rfl
  · obtain ⟨x, dx, a, ps, rfl, hx, hR, hv, hl, k⟩ := h
    refine ⟨_, PSs.nox (pss_cons (ps_expr (pe_d D_refuse_wrong_stretches (hr.mono (by decide)) (by rfl) pass0 (pa_cons (pv 1) pa_nil)))
      (pss_one (ps_fld (pv 0) (pe_d D_fewest (hr.mono (by decide)) (by rfl) pass0 (pa_cons (pv 1) pa_nil)) rfl))), ?_⟩
    refine ⟨_, rfl, a, ps, rfl, hR, hv, hl, fun H1 s1 => ?_⟩
    refine ⟨_, rfl, a, ps, rfl, hR.same s1, by omega, fun c qs H2 s2 perm lx hc => ?_⟩
    rw [merge_few (fun p h => (hv p h).2.1) perm lx] at hc
    have s3 := s1.trans s2
    refine ⟨_, rfl, x, _, dx, _, rfl, s3 _ _ hx, Z.cls "Pool", Z.noat "Pool" "pairs", (by show 0 < 1000; decide), ?_⟩
    have b2 : But x H2 (upd H2 x (.ins (He.ga K "Pool") dx (pf c))) := But.upd _ _ _
    have hx2 := s3 _ _ hx
    refine k _ ((But.of s3).trans b2) ⟨dx, c, upd_same, ?_⟩
    obtain ⟨xs, h1, h2⟩ := hc
    refine ⟨xs, ?_, Prs.imp (fun v p ⟨t, e, q⟩ => ⟨t, e, b2 _ _ (ne_of q hx2 (by intro z; cases z)) q⟩) h2⟩
    rcases h1 with (h1 | ⟨o, h1⟩) | h1
    · exact .inl (.inl (b2 _ _ (ne_of h1 hx2 (by intro z; cases z)) h1))
    · exact .inl (.inr ⟨o, b2 _ _ (ne_of h1 hx2 (by intro z; cases z)) h1⟩)
    · exact .inr h1
theorem pool_init (Z : Zc K mg) : ∃ fd, FnOk P w K mg base CX0 6 (He.ma K (He.ga K "Pool") "__init__") fd ["self", "stretches"] (spInit K) ∧ Binds K fd ["self", "stretches"] [] ∧
    ∃ ds, Vals [V.ref (He.dflAt ("Pool", some "__init__") 0 K)] ds ∧ Binds K fd ["self", "stretches"] ds := let ⟨fd, _, h⟩ := pool_initF (P := P) (w := w) (base := base) Z; ⟨fd, h⟩
theorem pool_stretches (Z : Zc K mg) : ∃ fd, FnOk P w K mg base CX0 1 (He.ma K (He.ga K "Pool") "stretches") fd ["self"] (spStretches K) ∧ Binds K fd ["self"] [] := by
  obtain ⟨fd, F⟩ := F_Pool_stretches Z
  refine ⟨fd, F.ok sc_Pool_stretches (fun vs H Q E h => ?_) (fun cdv A outer s H vs Q E hr h => ?_), F.bindsN (fun _ _ _ _ _ _ us hl => match us, hl with | [_], _ => rfl)⟩
  · obtain ⟨_, _, rfl, _⟩ := h
    rfl
  · obtain ⟨x, out, rfl, ⟨dx, c, hx, hr'⟩, k⟩ := h
    refine ⟨_, PSs.nox (pss_one (ps_ret (pe_fld (pv 0) rfl))), ?_⟩
    exact ⟨_, rfl, x, _, dx, _, _, rfl, hx, Z.cls "Pool", Z.noat "Pool" "pairs", rfl, k c hr'⟩
end

/-! ### the law's own sameness -/
mutual
theorem Dp.same {K : PySem.W.Frag} {H H' : Hp} (s : Same H H') : ∀ {v : V} {d : PyData}, Dp K H v d → Dp K H' v d
  | _, _, .non => .non
  | _, _, .bl b => .bl b
  | _, _, .int i => .int i
  | _, _, .str x => .str x
  | _, _, .lst h a => .lst (s.seq h) (DpAll.same s a)
  | _, _, .tup h a => .tup (Same.sqT s h) (DpAll.same s a)
theorem DpAll.same {K : PySem.W.Frag} {H H' : Hp} (s : Same H H') : ∀ {vs : List V} {ds : List PyData}, DpAll K H vs ds → DpAll K H' vs ds
  | _, _, .nil => .nil
  | _, _, .cons h a => .cons (Dp.same s h) (DpAll.same s a)
end
theorem DpAll.len {K : PySem.W.Frag} {H : Hp} : ∀ {vs : List V} {ds : List PyData}, DpAll K H vs ds → vs.length = ds.length
  | _, _, .nil => rfl
  | _, _, .cons _ a => congrArg Nat.succ (DpAll.len a)
theorem DpAll.get {K : PySem.W.Frag} {H : Hp} : ∀ {vs : List V} {ds : List PyData} {i : Nat} {x : V}, DpAll K H vs ds → vs[i]? = some x → ∃ d, ds[i]? = some d ∧ Dp K H x d
  | _, _, _, _, .nil, e => by simp at e
  | _, _, 0, _, .cons a _, e => by simp at e; subst e; exact ⟨_, rfl, a⟩
  | _, _, i + 1, x, .cons _ t, e => by
    obtain ⟨p, h1, h2⟩ := DpAll.get (i := i) (x := x) t (by simpa using e)
    exact ⟨p, by simpa using h1, h2⟩
def isBd : PyData → Bool
  | .bool _ => true
  | _ => false
mutual
def sameD : PyData → PyData → Bool
  | .list xs, .list ys => (xs.length == ys.length) && sameAll xs ys
  | .tuple xs, .tuple ys => (xs.length == ys.length) && sameAll xs ys
  | .list _, _ => false
  | .tuple _, _ => false
  | _, .list _ => false
  | _, .tuple _ => false
  | d, e => (isBd d == isBd e) && PyData.eqv d e
def sameAll : List PyData → List PyData → Bool
  | x :: xs, y :: ys => sameD x y && sameAll xs ys
  | _, _ => true
end
mutual
theorem sameD_refl : ∀ d : PyData, d.canLay0 = true → sameD d d = true
  | .none, _ => rfl
  | .bool b, _ => by cases b <;> rfl
  | .int i, _ => by
    show (true && (i == i)) = true
    rw [beq_self_eq_true]
    rfl
  | .str x, _ => by
    show (true && (x == x)) = true
    rw [beq_self_eq_true]
    rfl
  | .list xs, h => by
    show ((xs.length == xs.length) && sameAll xs xs) = true
    rw [beq_self_eq_true, sameAll_refl xs h]
    rfl
  | .tuple xs, h => by
    show ((xs.length == xs.length) && sameAll xs xs) = true
    rw [beq_self_eq_true, sameAll_refl xs h]
    rfl
  | .dict _, h => by cases h
theorem sameAll_refl : ∀ ds : List PyData, PyData.canLayAll0 ds = true → sameAll ds ds = true
  | [], _ => rfl
  | d :: ds, h => by
    obtain ⟨h1, h2⟩ := He.ba (show (d.canLay0 && PyData.canLayAll0 ds) = true from h)
    show (sameD d d && sameAll ds ds) = true
    rw [sameD_refl d h1, sameAll_refl ds h2]
    rfl
end
theorem sameAll_zip : ∀ xs ys : List PyData, ((xs.zip ys).map fun p => sameD p.1 p.2).all id = sameAll xs ys
  | [], [] => rfl
  | [], _ :: _ => rfl
  | _ :: _, [] => rfl
  | x :: xs, y :: ys => by
    show (sameD x y && ((xs.zip ys).map fun p => sameD p.1 p.2).all id) = (sameD x y && sameAll xs ys)
    rw [sameAll_zip xs ys]
/-- data of a bounded size -/
structure Lay (d : PyData) : Prop where
  can : d.canLay0 = true
  dep : d.depth ≤ 60
  wt : d.weight ≤ 1000000
theorem Lay.shaped {d : PyData} (h : Lay d) : SeqAt.shaped d = true := Bool.and_eq_true_iff.mpr ⟨h.can, decide_eq_true (by have := h.dep; omega)⟩
/-- of what depth, how long -/
def spSame (K : PySem.W.Frag) : Nat → Sp
  | 0 => fun _ _ _ _ => False
  | n + 1 => fun vs H Q _ => ∃ (x y : V) (d e : PyData), vs = [x, y] ∧ Dp K H x d ∧ Dp K H y e ∧ Lay d ∧ Lay e ∧ d.depth ≤ n ∧ e.depth ≤ n ∧ ∀ H', Same H H' → Q (.bl (sameD d e)) H'
theorem lay_item {d : PyData} {ds : List PyData} (h : PyData.canLayAll0 ds = true) : ∀ {i : Nat}, ds[i]? = some d → d.canLay0 = true ∧ d.depth ≤ PyData.depthAll ds ∧ d.weight + 1 ≤ PyData.weightAll ds := by
  induction ds with
  | nil => intro i e; cases e
  | cons a t ih =>
    intro i e
    obtain ⟨h1, h2⟩ := He.ba (show (a.canLay0 && PyData.canLayAll0 t) = true from h)
    have dm : PyData.depthAll (a :: t) = max a.depth (PyData.depthAll t) := rfl
    have wm : PyData.weightAll (a :: t) = a.weight + 1 + PyData.weightAll t := rfl
    cases i with
    | zero =>
      cases e
      exact ⟨h1, by omega, by omega⟩
    | succ i =>
      obtain ⟨q1, q2, q3⟩ := ih h2 (show t[i]? = some d from e)
      exact ⟨q1, by omega, by omega⟩
theorem weight_len : ∀ ds : List PyData, ds.length ≤ PyData.weightAll ds
  | [] => Nat.le_refl _
  | a :: t => by
    have := weight_len t
    have wm : PyData.weightAll (a :: t) = a.weight + 1 + PyData.weightAll t := rfl
    rw [wm, List.length_cons]
    omega
def tyD : PyData → String
  | .none => "NoneType"
  | .bool _ => "bool"
  | .int _ => "int"
  | .str _ => "str"
  | .list _ => "list"
  | .tuple _ => "tuple"
  | .dict _ => "dict"
theorem SqL.ty {K : PySem.W.Frag} {H : Hp} {a : Addr} {xs : List V} (h : SqL K H a xs) : TyX K H (.ref a) (.type "list") := by
  rcases h with (h | ⟨o, h⟩) | ⟨o, its, n, h1, h2, _⟩
  · exact .base (.lst h)
  · exact .base (.frz h)
  · exact .kList h1 h2
theorem Dp.ty {K : PySem.W.Frag} {H : Hp} {v : V} {d : PyData} (h : Dp K H v d) : TyX K H v (.type (tyD d)) := by
  cases h with
  | non => exact .base .non
  | bl b => exact .base (.bl b)
  | int i => exact .base (.int i)
  | str x => exact .base (.str x)
  | lst h _ => exact SqL.ty h
  | tup h _ => exact SqT.ty h
theorem kit_all : ∀ t ∈ ["NoneType", "bool", "int", "str", "list", "tuple", "dict"], ∀ b ∈ ["list", "tuple", "bool"], kitB t b = some (decide (t = b)) := by decide +kernel
theorem kit_d (K : PySem.W.Frag) (d : PyData) (b : String) (hb : b ∈ ["list", "tuple", "bool"]) : PySem.W.kitOne K (.type (tyD d)) (.type b) = some (decide (tyD d = b)) := by
  refine kit_ty (kit_all _ ?_ b hb)
  cases d <;> simp [tyD]
theorem ty_of {d e : PyData} (h : tyD d = tyD e) : True := trivial
theorem plain_same {d e : PyData} (h1 : ¬ tyD d = "list") (h2 : ¬ tyD d = "tuple") (h3 : ¬ tyD e = "list") (h4 : ¬ tyD e = "tuple") : sameD d e = ((isBd d == isBd e) && PyData.eqv d e) := by
  cases d <;> cases e <;> first | rfl | exact absurd rfl h1 | exact absurd rfl h2 | exact absurd rfl h3 | exact absurd rfl h4
theorem bool_same (d e : PyData) : decide (V.bl (decide (tyD d = "bool")) = V.bl (decide (tyD e = "bool"))) = (isBd d == isBd e) := by
  cases d <;> cases e <;> rfl
theorem walk_zipT {K : PySem.W.Frag} {a b : Addr} {xs ys : List V} {n : Nat} (hn : n = min xs.length ys.length) : Walk (RZ.ItzT K a b) n (fun H => SqT K H a xs ∧ SqT K H b ys) (YPair (fun i => xs[i]?) (fun i => ys[i]?)) := by
  subst hn
  refine ⟨fun i _ hi q => ?_, fun _ q => ⟨xs, ys, q.1, q.2, by omega⟩, fun i H v H' _ q y => ?_⟩
  · have h1 : i < xs.length := by omega
    have h2 : i < ys.length := by omega
    exact ⟨xs, ys, xs[i], ys[i], q.1, q.2, List.getElem?_eq_getElem h1, List.getElem?_eq_getElem h2⟩
  · obtain ⟨T, x, z, h1, h2, h3, h4, h5⟩ := y
    exact ⟨T, x, z, h1, h2, h3, h4 xs q.1, h5 ys q.2⟩
theorem diff_list {d e : PyData} (h : ¬ decide (tyD d = "list") = decide (tyD e = "list")) : sameD d e = false := by
  cases d <;> cases e <;> first | rfl | exact absurd rfl h
theorem diff_tup {d e : PyData} (h : ¬ decide (tyD d = "tuple") = decide (tyD e = "tuple")) : sameD d e = false := by
  cases d <;> cases e <;> first | rfl | exact absurd rfl h
section
variable {P : Program} {w : World} {K : PySem.W.Frag} {mg : Str → Option Value} {base : Heap}
theorem D_same (Z : Zc K mg) : ∀ n : Nat, Dn P w K mg base CX0 "_law_same" n ["_law_here", "_law_there"] (spSame K n)
  | 0 => by
    obtain ⟨fd, F⟩ := F_l_same Z
    exact ⟨_, fd, Z.glo "_law_same", F.kp, F.bindsN (fun _ _ _ _ _ _ us hl => match us, hl with | [_, _], _ => rfl), ⟨fun _ _ _ _ h => h.elim, fun _ _ _ _ _ _ _ _ _ _ _ _ _ h => h.elim⟩⟩
  | n + 1 => by
    have D_l_same : Dn P w K mg base CX0 "_law_same" n ["_law_here", "_law_there"] (spSame K n) := D_same Z n
    obtain ⟨fd, F⟩ := F_l_same Z
    refine ⟨_, fd, Z.glo "_law_same", F.kp, F.bindsN (fun _ _ _ _ _ _ us hl => match us, hl with | [_, _], _ => rfl), F.ok sc_l_same (fun vs H Q E h => ?_) (fun cdv A outer s H vs Q E hr h => ?_)⟩
    · obtain ⟨_, _, _, _, rfl, _⟩ := h
      rfl
    · obtain ⟨x, y, d, e, rfl, hd, he, sd, se, dd, de, k⟩ := h
      refine ⟨_, PSs.nox (pss_cons (ps_if (PW.pt (pw_or (pt_cmpR op_ne (pe_callB call_isi (by rfl) (Z.free "isinstance") (by decide +kernel) (pa_cons (pv 0) (pa_cons (pe_bltn (v := .ty "list") (by rfl) (Z.free "list") (by decide +kernel) rfl) pa_nil))) (pe_callB call_isi (by rfl) (Z.free "isinstance") (by decide +kernel) (pa_cons (pv 1) (pa_cons (pe_bltn (v := .ty "list") (by rfl) (Z.free "list") (by decide +kernel) rfl) pa_nil))) (nomark _)) (pw_or1 (pt_cmpR op_ne (pe_callB call_isi (by rfl) (Z.free "isinstance") (by decide +kernel) (pa_cons (pv 0) (pa_cons (pe_bltn (v := .ty "tuple") (by rfl) (Z.free "tuple") (by decide +kernel) rfl) pa_nil))) (pe_callB call_isi (by rfl) (Z.free "isinstance") (by decide +kernel) (pa_cons (pv 1) (pa_cons (pe_bltn (v := .ty "tuple") (by rfl) (Z.free "tuple") (by decide +kernel) rfl) pa_nil))) (nomark _))))) (pss_one (ps_ret pe_bl)) pss_nil)
      (pss_cons (ps_if (PW.pt (pw_or (pt_val (pe_callB call_isi (by rfl) (Z.free "isinstance") (by decide +kernel) (pa_cons (pv 0) (pa_cons (pe_bltn (v := .ty "list") (by rfl) (Z.free "list") (by decide +kernel) rfl) pa_nil)))) (pw_or1 (pt_val (pe_callB call_isi (by rfl) (Z.free "isinstance") (by decide +kernel) (pa_cons (pv 0) (pa_cons (pe_bltn (v := .ty "tuple") (by rfl) (Z.free "tuple") (by decide +kernel) rfl) pa_nil))))))) (pss_one (ps_ret (pe_and (pe_cmpR op_eq (pe_callB call_len_seq (by rfl) (Z.free "len") (by decide +kernel) (pa_cons (pv 0) pa_nil)) (pe_callB call_len_seq (by rfl) (Z.free "len") (by decide +kernel) (pa_cons (pv 1) pa_nil)) (nomark _)) (pe_one (pe_callB (cr_all rfl) (by rfl) (Z.free "all") (by decide +kernel) (pa_cons (pe_lc (own := [("_law_a", 2), ("_law_b", 3)]) (g := gTup K 2 (gCons (gName 2) (gCons (gName 3) gNil))) (tt := tYes) (by rfl) sc_l_same.nd (RZ.pi_zipA (by rfl) (Z.free "zip") (pa_cons (pv 0) (pa_cons (pv 1) pa_nil))) (blkOk_by (own := [("_law_a", 2), ("_law_b", 3)]) (N := N_l_same) (sc := defScope s_l_same) (by decide +kernel)) (fun _ _ _ _ _ => (pg_tup (by rfl) (pgs_cons (pg_name (i := 2) sc_l_same.nd rfl (Or.inl rfl)) (pgs_cons (pg_name (i := 3) sc_l_same.nd rfl (Or.inl rfl)) pgs_nil)))) (fun _ _ _ _ _ => pts_nil) (fun _ _ _ _ _ => (pe_d D_l_same hr (by rfl) pass0 (pa_cons (pv 2) (pa_cons (pv 3) pa_nil))))) pa_nil)))))) pss_nil)
      (pss_one (ps_ret (pe_and (pe_cmpR op_eq (pe_callB call_isi (by rfl) (Z.free "isinstance") (by decide +kernel) (pa_cons (pv 0) (pa_cons (pe_bltn (v := .ty "bool") (by rfl) (Z.free "bool") (by decide +kernel) rfl) pa_nil))) (pe_callB call_isi (by rfl) (Z.free "isinstance") (by decide +kernel) (pa_cons (pv 1) (pa_cons (pe_bltn (v := .ty "bool") (by rfl) (Z.free "bool") (by decide +kernel) rfl) pa_nil))) (nomark _)) (pe_one (pe_cmpR (op_eqD hr.units) (pv 0) (pv 1) (nomark _)))))))), ?_⟩
      refine ⟨_, rfl, _, _, _, _, _, rfl, .ty "list", (Dp.ty hd), kit_d K d "list" (by decide), _, rfl, _, _, _, _, _, rfl, .ty "list", (Dp.ty he), kit_d K e "list" (by decide), rfl, _, rfl, ?_⟩
      refine ite2 (fun q => ?_) (fun q => ?_)
      · have e0 : sameD d e = false := diff_list fun z => by rw [z, decide_eq_true rfl] at q; exact absurd q (by decide)
        have := k H (Same.refl H)
        rw [e0] at this
        exact this
      have eL : decide (tyD d = "list") = decide (tyD e = "list") := by
        cases z1 : decide (tyD d = "list") <;> cases z2 : decide (tyD e = "list") <;> first | rfl | (rw [z1, z2] at q; exact absurd rfl q)
      refine ⟨_, rfl, _, _, _, _, _, rfl, .ty "tuple", (Dp.ty hd), kit_d K d "tuple" (by decide), _, rfl, _, _, _, _, _, rfl, .ty "tuple", (Dp.ty he), kit_d K e "tuple" (by decide), rfl, _, rfl, ?_⟩
      refine ite2 (fun q => ?_) (fun q => ?_)
      · have e0 : sameD d e = false := diff_tup fun z => by rw [z, decide_eq_true rfl] at q; exact absurd q (by decide)
        have := k H (Same.refl H)
        rw [e0] at this
        exact this
      have eT : decide (tyD d = "tuple") = decide (tyD e = "tuple") := by
        cases z1 : decide (tyD d = "tuple") <;> cases z2 : decide (tyD e = "tuple") <;> first | rfl | (rw [z1, z2] at q; exact absurd rfl q)
      refine ⟨_, rfl, _, _, _, _, _, rfl, .ty "list", (Dp.ty hd), kit_d K d "list" (by decide), _, rfl, ?_⟩
      have sz : sizeLine = 16777216 := sizeLine_eq
      refine ite2 (fun q => ?_) (fun q => ?_)
      · -- two lists
        have t1 : tyD d = "list" := of_decide_eq_true q
        have t2 : tyD e = "list" := of_decide_eq_true (eL ▸ q)
        cases hd with
        | @lst a xs ds hs hall =>
          cases he with
          | @lst a2 xs2 ds2 hs2 hall2 =>
            have l1 := DpAll.len hall
            have l2 := DpAll.len hall2
            refine ⟨_, rfl, _, _, rfl, (.inl hs), _, rfl, _, _, rfl, (.inl hs2), rfl, _, rfl, ?_⟩
            have cd : PyData.canLayAll0 ds = true := sd.can
            have ce : PyData.canLayAll0 ds2 = true := se.can
            have wd : PyData.weightAll ds ≤ 1000000 := sd.wt
            have we : PyData.weightAll ds2 ≤ 1000000 := se.wt
            have pd : PyData.depthAll ds + 1 ≤ 60 := sd.dep
            have pe : PyData.depthAll ds2 + 1 ≤ 60 := se.dep
            have wl := weight_len ds
            refine ite2 (fun q3 => ?_) (fun q3 => ?_)
            · have el : xs.length = xs2.length := by
                have := V.int.inj (of_decide_eq_true q3)
                omega
              cases n with
              | zero => exact absurd dd (Nat.not_succ_le_zero _)
              | succ m =>
                refine ⟨_, rfl, _, rfl, a, a2, xs, xs2, rfl, .inl ⟨hs, hs2, fun D hD => lc_it (walk_zip rfl) (fun i H' => Same H H' ∧ H' D = some (.lst (((ds.zip ds2).take i).map fun p => V.bl (sameD p.1 p.2)))) ⟨Same.new (Same.refl H) hD, upd_same⟩ (fun i H' _ h => ⟨Same.seq h.1 hs, Same.seq h.1 hs2⟩) (fun i v H0' H' hi h y => ?_) (fun H' h => ?_)⟩⟩
                · obtain ⟨T, vx, vy, rfl, hT, rfl, ex, ey⟩ := y
                  obtain ⟨s1, hD1⟩ := h
                  obtain ⟨dx, hdx, px⟩ := DpAll.get hall ex
                  obtain ⟨dy, hdy, py⟩ := DpAll.get hall2 ey
                  have w1 : Same H (upd H0' T (.tup [vx, vy])) := Same.new s1 hT
                  obtain ⟨c1, c2, c5⟩ := lay_item cd hdx
                  obtain ⟨c3, c4, c6⟩ := lay_item ce hdy
                  have dd' : PyData.depthAll ds + 1 ≤ m + 1 := dd
                  have de' : PyData.depthAll ds2 + 1 ≤ m + 1 := de
                  refine ⟨T, _, rfl, SqT.of upd_same, rfl, _, _, rfl, _, _, rfl, rfl, rfl, ?_⟩
                  refine ⟨_, rfl, _, rfl, vx, vy, dx, dy, rfl, Dp.same w1 px, Dp.same w1 py, ⟨c1, by omega, by omega⟩, ⟨c3, by omega, by omega⟩, by omega, by omega, fun H2 s2 => ?_⟩
                  have hD2 := s2 _ _ ((Same.new (o := .tup [vx, vy]) (Same.refl _) hT) _ _ hD1)
                  have ez : (ds.zip ds2)[i]? = some (dx, dy) := by
                    rw [List.getElem?_zip_eq_some]
                    exact ⟨hdx, hdy⟩
                  refine ⟨_, hD2, ?_, fun p o e => ?_, ?_⟩
                  · rw [List.length_map, List.length_take, List.length_zip]
                    omega
                  · rw [upd_ne (ne_of_none e hD)]
                    exact s2 _ _ (w1 _ _ e)
                  · rw [upd_same, map_take_succ _ ez]
                · obtain ⟨s1, hD1⟩ := h
                  refine ⟨D, ((ds.zip ds2).map fun p => sameD p.1 p.2), rfl, SqL.of ?_, ?_⟩
                  · rw [hD1, l1, l2, ← List.length_zip, List.take_length, List.map_map]
                    rfl
                  · rw [sameAll_zip]
                    have kk := k H' s1
                    have es : sameD (PyData.list ds) (PyData.list ds2) = ((ds.length == ds2.length) && sameAll ds ds2) := rfl
                    rw [es, show (ds.length == ds2.length) = true from beq_iff_eq.mpr (by omega), Bool.true_and] at kk
                    exact kk
            · have kk := k H (Same.refl H)
              have es : sameD (PyData.list ds) (PyData.list ds2) = ((ds.length == ds2.length) && sameAll ds ds2) := rfl
              have nl : ¬ ds.length = ds2.length := fun z => q3 (decide_eq_true (by rw [l1, l2, z]))
              rw [es, show (ds.length == ds2.length) = false from beq_eq_false_iff_ne.mpr nl, Bool.false_and] at kk
              exact kk
          | tup _ _ => exact absurd t2 (by simp [tyD])
          | _ => exact absurd t2 (by simp [tyD])
        | tup _ _ => exact absurd t1 (by simp [tyD])
        | _ => exact absurd t1 (by simp [tyD])
      · have nd : ¬ tyD d = "list" := fun z => q (decide_eq_true z)
        have ne : ¬ tyD e = "list" := fun z => nd (of_decide_eq_true (eL ▸ decide_eq_true z))
        refine ⟨_, rfl, _, _, _, _, _, rfl, .ty "tuple", (Dp.ty hd), kit_d K d "tuple" (by decide), _, rfl, ?_⟩
        refine ite2 (fun q => ?_) (fun q => ?_)
        · have t1 : tyD d = "tuple" := of_decide_eq_true q
          have t2 : tyD e = "tuple" := of_decide_eq_true (eT ▸ q)
          cases hd with
          | @tup a xs ds hs hall =>
            cases he with
            | @tup a2 xs2 ds2 hs2 hall2 =>
              have l1 := DpAll.len hall
              have l2 := DpAll.len hall2
              refine ⟨_, rfl, _, _, rfl, (.inr hs), _, rfl, _, _, rfl, (.inr hs2), rfl, _, rfl, ?_⟩
              have cd : PyData.canLayAll0 ds = true := sd.can
              have ce : PyData.canLayAll0 ds2 = true := se.can
              have wd : PyData.weightAll ds ≤ 1000000 := sd.wt
              have we : PyData.weightAll ds2 ≤ 1000000 := se.wt
              have pd : PyData.depthAll ds + 1 ≤ 60 := sd.dep
              have pe : PyData.depthAll ds2 + 1 ≤ 60 := se.dep
              have wl := weight_len ds
              refine ite2 (fun q3 => ?_) (fun q3 => ?_)
              · have el : xs.length = xs2.length := by
                  have := V.int.inj (of_decide_eq_true q3)
                  omega
                cases n with
                | zero => exact absurd dd (Nat.not_succ_le_zero _)
                | succ m =>
                  refine ⟨_, rfl, _, rfl, a, a2, xs, xs2, rfl, .inr ⟨hs, hs2, fun D hD => lc_it (walk_zipT rfl) (fun i H' => Same H H' ∧ H' D = some (.lst (((ds.zip ds2).take i).map fun p => V.bl (sameD p.1 p.2)))) ⟨Same.new (Same.refl H) hD, upd_same⟩ (fun i H' _ h => ⟨Same.sqT h.1 hs, Same.sqT h.1 hs2⟩) (fun i v H0' H' hi h y => ?_) (fun H' h => ?_)⟩⟩
                  · obtain ⟨T, vx, vy, rfl, hT, rfl, ex, ey⟩ := y
                    obtain ⟨s1, hD1⟩ := h
                    obtain ⟨dx, hdx, px⟩ := DpAll.get hall ex
                    obtain ⟨dy, hdy, py⟩ := DpAll.get hall2 ey
                    have w1 : Same H (upd H0' T (.tup [vx, vy])) := Same.new s1 hT
                    obtain ⟨c1, c2, c5⟩ := lay_item cd hdx
                    obtain ⟨c3, c4, c6⟩ := lay_item ce hdy
                    have dd' : PyData.depthAll ds + 1 ≤ m + 1 := dd
                    have de' : PyData.depthAll ds2 + 1 ≤ m + 1 := de
                    refine ⟨T, _, rfl, SqT.of upd_same, rfl, _, _, rfl, _, _, rfl, rfl, rfl, ?_⟩
                    refine ⟨_, rfl, _, rfl, vx, vy, dx, dy, rfl, Dp.same w1 px, Dp.same w1 py, ⟨c1, by omega, by omega⟩, ⟨c3, by omega, by omega⟩, by omega, by omega, fun H2 s2 => ?_⟩
                    have hD2 := s2 _ _ ((Same.new (o := .tup [vx, vy]) (Same.refl _) hT) _ _ hD1)
                    have ez : (ds.zip ds2)[i]? = some (dx, dy) := by
                      rw [List.getElem?_zip_eq_some]
                      exact ⟨hdx, hdy⟩
                    refine ⟨_, hD2, ?_, fun p o e => ?_, ?_⟩
                    · rw [List.length_map, List.length_take, List.length_zip]
                      omega
                    · rw [upd_ne (ne_of_none e hD)]
                      exact s2 _ _ (w1 _ _ e)
                    · rw [upd_same, map_take_succ _ ez]
                  · obtain ⟨s1, hD1⟩ := h
                    refine ⟨D, ((ds.zip ds2).map fun p => sameD p.1 p.2), rfl, SqL.of ?_, ?_⟩
                    · rw [hD1, l1, l2, ← List.length_zip, List.take_length, List.map_map]
                      rfl
                    · rw [sameAll_zip]
                      have kk := k H' s1
                      have es : sameD (PyData.tuple ds) (PyData.tuple ds2) = ((ds.length == ds2.length) && sameAll ds ds2) := rfl
                      rw [es, show (ds.length == ds2.length) = true from beq_iff_eq.mpr (by omega), Bool.true_and] at kk
                      exact kk
              · have kk := k H (Same.refl H)
                have es : sameD (PyData.tuple ds) (PyData.tuple ds2) = ((ds.length == ds2.length) && sameAll ds ds2) := rfl
                have nl : ¬ ds.length = ds2.length := fun z => q3 (decide_eq_true (by rw [l1, l2, z]))
                rw [es, show (ds.length == ds2.length) = false from beq_eq_false_iff_ne.mpr nl, Bool.false_and] at kk
                exact kk
            | lst _ _ => exact absurd t2 (by simp [tyD])
            | _ => exact absurd t2 (by simp [tyD])
          | lst _ _ => exact absurd t1 (by simp [tyD])
          | _ => exact absurd t1 (by simp [tyD])
        · -- two plain things
          have nd2 : ¬ tyD d = "tuple" := fun z => q (decide_eq_true z)
          have ne2 : ¬ tyD e = "tuple" := fun z => nd2 (of_decide_eq_true (eT ▸ decide_eq_true z))
          have es : sameD d e = ((isBd d == isBd e) && PyData.eqv d e) := plain_same nd nd2 ne ne2
          have kk := k H (Same.refl H)
          rw [es] at kk
          refine ⟨_, rfl, _, _, _, _, _, rfl, .ty "bool", (Dp.ty hd), kit_d K d "bool" (by decide), _, rfl, _, _, _, _, _, rfl, .ty "bool", (Dp.ty he), kit_d K e "bool" (by decide), rfl, _, rfl, ?_⟩
          have eb : decide (V.bl (decide (tyD d = "bool")) = V.bl (decide (tyD e = "bool"))) = (isBd d == isBd e) := bool_same d e
          rw [eb]
          refine ite2 (fun q3 => ?_) (fun q3 => ?_)
          · rw [q3, Bool.true_and] at kk
            exact ⟨_, rfl, _, rfl, d, e, hd, he, sd.shaped, se.shaped, kk⟩
          · rw [Bool.not_eq_true] at q3
            rw [q3, Bool.false_and] at kk
            exact kk
end

/-! ### what a pool tells -/
def dT (out : List (Int × Int)) : PyData := .tuple (out.map fun p => PyData.tuple [.int p.1, .int p.2])
theorem small_int {m : Int} (h1 : 0 ≤ m) (h2 : m ≤ 999999) : (PyData.int m).showable = true ∧ (PyData.int m).leavesShort 13 = true ∧ (PyData.int m).weight ≤ 20 := by
  have hn : m.natAbs < 10 ^ 12 := by
    have : (10 : Nat) ^ 12 = 1000000000000 := by decide
    omega
  have h20 : m.natAbs.log2 < 20 := PySem.Flt.log2_lt_of (by decide) (by rw [show (2 : Nat) ^ 20 = 1048576 from rfl]; omega)
  refine ⟨decide_eq_true (by omega), ?_, ?_⟩
  · have t1 : (PyData.shown (.int m)).length ≤ 13 := by
      show (Str.ofString (toString m)).length ≤ 13
      rw [PySem.ofString_length]
      exact int_text_length_le10 (k := 12) (by decide) hn
    simpa only [PyData.leavesShort, decide_eq_true_iff] using t1
  · show (if m == 0 then 0 else m.natAbs.log2 + 1) ≤ 20
    split <;> omega
theorem pairs_small : ∀ {out : List (Int × Int)}, Valid out → PyData.showableAll (out.map fun p => PyData.tuple [.int p.1, .int p.2]) = true ∧ PyData.hasDictAll (out.map fun p => PyData.tuple [.int p.1, .int p.2]) = false ∧ PyData.leavesShortAll 13 (out.map fun p => PyData.tuple [.int p.1, .int p.2]) = true ∧ PyData.weightAll (out.map fun p => PyData.tuple [.int p.1, .int p.2]) ≤ 45 * out.length
  | [], _ => ⟨rfl, rfl, rfl, Nat.le_refl _⟩
  | p :: t, h => by
    obtain ⟨a1, a2, a3⟩ := h p List.mem_cons_self
    obtain ⟨b1, b2, b3, b4⟩ := pairs_small (out := t) fun q hq => h q (List.mem_cons_of_mem _ hq)
    obtain ⟨c1, c2, c3⟩ := small_int a1 (show p.1 ≤ 999999 by omega)
    obtain ⟨d1, d2, d3⟩ := small_int (show 0 ≤ p.2 by omega) a3
    refine ⟨?_, ?_, ?_, ?_⟩
    · show (((PyData.int p.1).showable && ((PyData.int p.2).showable && true)) && PyData.showableAll _) = true
      rw [c1, d1, b1]
      rfl
    · show ((false || (false || false)) || PyData.hasDictAll _) = false
      rw [b2]
      rfl
    · simp only [List.map_cons, PyData.leavesShortAll, PyData.leavesShort] at c2 d2 b3 ⊢
      rw [b3]
      simp only [c2, d2]
      rfl
    · show ((PyData.int p.1).weight + 1 + ((PyData.int p.2).weight + 1 + 0)) + 1 + PyData.weightAll (t.map fun p => PyData.tuple [.int p.1, .int p.2]) ≤ 45 * (t.length + 1)
      omega
theorem dT_small {out : List (Int × Int)} (h : Valid out) (hl : out.length ≤ 1000) : (dT out).showable = true ∧ (dT out).hasDict = false ∧ (dT out).depth ≤ 60 ∧ (dT out).shown.length ≤ 700000 ∧ Lay (dT out) := by
  obtain ⟨b1, b2, b3, b4⟩ := pairs_small h
  have dp := depth_pairs out
  have dd : (dT out).depth = PyData.depthAll (out.map fun p => PyData.tuple [.int p.1, .int p.2]) + 1 := rfl
  have wt : (dT out).weight = PyData.weightAll (out.map fun p => PyData.tuple [.int p.1, .int p.2]) := rfl
  refine ⟨b1, b2, by omega, ?_, ⟨lay_pairs out, by omega, by omega⟩⟩
  have q := PyData.shown_le 13 (by decide) (dT out) (by simpa only [dT, PyData.leavesShort] using b3)
  omega
theorem eqv_dT : ∀ a b : List (Int × Int), PyData.eqv (dT a) (dT b) = decide (a = b) := fun a b => by
  show PyData.eqvAll (a.map fun p => PyData.tuple [.int p.1, .int p.2]) (b.map fun p => PyData.tuple [.int p.1, .int p.2]) = _
  induction a generalizing b with
  | nil => cases b <;> rfl
  | cons p t ih =>
    cases b with
    | nil => rfl
    | cons q u =>
      show (((p.1 == q.1) && ((p.2 == q.2) && true)) && PyData.eqvAll _ _) = _
      rw [ih u]
      refine bool_eq ?_
      rw [Bool.and_eq_true, Bool.and_eq_true, Bool.and_true, beq_iff_eq, beq_iff_eq, decide_eq_true_iff, decide_eq_true_iff, List.cons.injEq]
      constructor
      · rintro ⟨⟨h1, h2⟩, h3⟩
        exact ⟨Prod.ext h1 h2, h3⟩
      · rintro ⟨h1, h2⟩
        exact ⟨⟨congrArg _ h1, congrArg _ h1⟩, h2⟩
theorem Rows.dp {K : PySem.W.Frag} {H : Hp} {c : Addr} {out : List (Int × Int)} (h : Rows K H c out) : Dp K H (.ref c) (dT out) := let ⟨_, h1, h2⟩ := h; .tup h1 h2.dp
/-- how many numbers -/
def sizeR (out : List (Int × Int)) : Int := (out.map fun p => p.2 - p.1 + 1).sum
theorem sizeR_bounds : ∀ {out : List (Int × Int)}, Valid out → 0 ≤ sizeR out ∧ sizeR out ≤ 1000000 * out.length
  | [], _ => ⟨by decide, by decide⟩
  | p :: t, h => by
    obtain ⟨a1, a2, a3⟩ := h p List.mem_cons_self
    obtain ⟨b1, b2⟩ := sizeR_bounds (out := t) fun q hq => h q (List.mem_cons_of_mem _ hq)
    have e : sizeR (p :: t) = p.2 - p.1 + 1 + sizeR t := by unfold sizeR; rw [List.map_cons, List.sum_cons]
    rw [e, List.length_cons]
    constructor
    · omega
    · push_cast
      omega
def reprP (out : List (Int × Int)) : Str := Str.empty ++ "Pool(" ++ (dT out).shown ++ ")"
abbrev ownTs : List String := ["tuple", "str", "NoneType", "int"]
def spHasP (K : PySem.W.Frag) : Sp := fun vs H Q _ => ∃ (x : Addr) (out : List (Int × Int)) (n : Int), vs = [.ref x, .int n] ∧ PoolAt K H x out ∧ out.length ≤ 1000 ∧ ∀ H', Same H H' → Q (.bl (hasR out n)) H'
def spEqP (K : PySem.W.Frag) : Sp := fun vs H Q _ => ∃ (x : Addr) (out : List (Int × Int)) (y : V), vs = [.ref x, y] ∧ PoolAt K H x out ∧
  ((∃ (x2 : Addr) (out2 : List (Int × Int)), y = .ref x2 ∧ PoolAt K H x2 out2 ∧ Q (.bl (decide (out = out2))) H) ∨ (∃ t, t ∈ ownTs ∧ TyX K H y (.type t) ∧ Q (.bl false) H))
def spLenP (K : PySem.W.Frag) : Sp := fun vs H Q _ => ∃ (x : Addr) (out : List (Int × Int)), vs = [.ref x] ∧ PoolAt K H x out ∧ out.length ≤ 1000 ∧ Valid out ∧ ∀ H', Same H H' → Q (.int (sizeR out)) H'
def spReprP (K : PySem.W.Frag) : Sp := fun vs H Q _ => ∃ (x : Addr) (out : List (Int × Int)), vs = [.ref x] ∧ PoolAt K H x out ∧ out.length ≤ 1000 ∧ Valid out ∧ Q (.str (reprP out)) H
section
variable {P : Program} {w : World} {K : PySem.W.Frag} {mg : Str → Option Value} {base : Heap}
theorem pool_has (Z : Zc K mg) : ∃ fd, FnOk P w K mg base CX0 1 (He.ma K (He.ga K "Pool") "has") fd ["self", "number"] (spHasP K) ∧ Binds K fd ["self", "number"] [] := by
  obtain ⟨fd, F⟩ := F_Pool_has Z
  refine ⟨fd, F.ok sc_Pool_has (fun vs H Q E h => ?_) (fun cdv A outer s H vs Q E hr h => ?_), F.bindsN (fun _ _ _ _ _ _ us hl => match us, hl with | [_, _], _ => rfl)⟩
  · obtain ⟨_, _, _, rfl, _⟩ := h
    rfl
  · obtain ⟨x, ps, n, rfl, ⟨dx, c, hX, xs, hs, hp⟩, hl, k⟩ := h
    refine ⟨_, PSs.nox (pss_one (ps_ret (pe_callB (cr_any rfl) (by rfl) (Z.free "any") (by decide +kernel) (pa_cons (pe_lc (own := [("low", 2), ("high", 3)]) (g := gTup K 2 (gCons (gName 2) (gCons (gName 3) gNil))) (tt := tYes) (by rfl) sc_Pool_has.nd (pi_tup (pe_fld (pv 0) rfl)) (blkOk_by (own := [("low", 2), ("high", 3)]) (N := N_Pool_has) (sc := defScope s_Pool_has) (by decide +kernel)) (fun _ _ _ _ _ => (pg_tup (by rfl) (pgs_cons (pg_name (i := 2) sc_Pool_has.nd rfl (Or.inl rfl)) (pgs_cons (pg_name (i := 3) sc_Pool_has.nd rfl (Or.inl rfl)) pgs_nil)))) (fun _ _ _ _ _ => pts_nil) (fun _ _ _ _ _ => (pe_chain op_le op_le (pv 2) (pv 1) (pv 3)))) pa_nil)))), ?_⟩
    refine ⟨_, rfl, x, _, dx, _, _, rfl, hX, Z.cls "Pool", Z.noat "Pool" "pairs", rfl, c, rfl, ⟨_, hs⟩, fun D hD => lc_it (walk_tup (xs := xs)) (fun i H' => Same H H' ∧ H' D = some (.lst ((ps.take i).map fun p => V.bl (inR p n)))) ⟨Same.new (Same.refl H) hD, upd_same⟩ (fun i H' _ h => Same.sqT h.1 hs) (fun i it H0' H' hi h y => ?_) (fun H' h => ?_)⟩
    · obtain ⟨rfl, hx⟩ := y
      obtain ⟨p, hpi, t, rfl, ht⟩ := hp.get hx
      have ht' := h.1 _ _ ht
      refine ⟨t, _, rfl, SqT.of ht', rfl, _, _, rfl, _, _, rfl, rfl, rfl, ?_⟩
      have fin : ∀ b : Bool, b = inR p n → ∃ acc, H' D = some (.lst acc) ∧ acc.length < sizeLine ∧ (Same H (upd H' D (.lst (acc ++ [V.bl b]))) ∧ (upd H' D (.lst (acc ++ [V.bl b]))) D = some (.lst ((ps.take (i + 1)).map fun p => V.bl (inR p n)))) := by
        rintro b rfl
        refine ⟨_, h.2, ?_, fun q o e => ?_, ?_⟩
        · rw [List.length_map, List.length_take]
          have : sizeLine = 16777216 := sizeLine_eq
          omega
        · rw [upd_ne (ne_of_none e hD)]
          exact h.1 _ _ e
        · rw [upd_same, map_take_succ _ hpi]
      refine ⟨_, rfl, _, rfl, _, _, rfl, rfl, _, rfl, ite2 (fun q => ?_) (fun q => ?_)⟩
      · refine ⟨_, rfl, _, _, rfl, rfl, fin _ ?_⟩
        unfold inR
        rw [q, Bool.true_and]
      · refine fin _ ?_
        unfold inR
        rw [Bool.not_eq_true] at q
        rw [q, Bool.false_and]
    · refine ⟨D, (ps.map fun p => inR p n), rfl, SqL.of ?_, ?_⟩
      · rw [h.2, hp.len, List.take_length, List.map_map]
        rfl
      · rw [show ((ps.map fun p => inR p n).any id) = hasR ps n by rw [List.any_map]; rfl]
        exact k _ h.1
theorem pool_eq (Z : Zc K mg) (OC : OwnC K (He.ga K "Pool") ownTs) : ∃ fd, FnOk P w K mg base CX0 1 (He.ma K (He.ga K "Pool") "__eq__") fd ["self", "other"] (spEqP K) ∧ Binds K fd ["self", "other"] [] := by
  obtain ⟨fd, F⟩ := F_PoolD_eqD Z
  refine ⟨fd, F.ok sc_PoolD_eqD (fun vs H Q E h => ?_) (fun cdv A outer s H vs Q E hr h => ?_), F.bindsN (fun _ _ _ _ _ _ us hl => match us, hl with | [_, _], _ => rfl)⟩
  · obtain ⟨_, _, _, rfl, _⟩ := h
    rfl
  · obtain ⟨x, out, y, rfl, ⟨dx, c, hX, hR⟩, h⟩ := h
    refine ⟨_, PSs.nox (pss_one (ps_ret (pe_and (pe_callB call_isi (by rfl) (Z.free "isinstance") (by decide +kernel) (pa_cons (pv 1) (pa_cons (pe_glob (v := .ref (He.ga K "Pool")) rfl (Z.glo "Pool") rfl) pa_nil))) (pe_one (pe_cmpR (op_eqD hr.units) (pe_fld (pv 0) rfl) (pe_fld (pv 1) rfl) (nomark _)))))), ?_⟩
    rcases h with ⟨x2, out2, rfl, ⟨dx2, c2, hX2, hR2⟩, q⟩ | ⟨t, ht, ty, q⟩
    · refine ⟨_, rfl, _, _, _, _, true, rfl, .own _, OC.ty (Z.cls "Pool") hX2, OC.me, true, rfl, ?_⟩
      refine ⟨_, rfl, x, _, dx, _, _, rfl, hX, Z.cls "Pool", Z.noat "Pool" "pairs", rfl, _, rfl, x2, _, dx2, _, _, rfl, hX2, Z.cls "Pool", Z.noat "Pool" "pairs", rfl, dT out, dT out2, hR.dp, hR2.dp, (shaped_pairs out).2, (shaped_pairs out2).2, ?_⟩
      rw [eqv_dT]
      exact q
    · exact ⟨_, rfl, _, _, _, _, false, rfl, .own _, ty, (OC.ts t ht).2, false, rfl, q⟩
theorem pool_len (Z : Zc K mg) : ∃ fd, FnOk P w K mg base CX0 1 (He.ma K (He.ga K "Pool") "__len__") fd ["self"] (spLenP K) ∧ Binds K fd ["self"] [] := by
  obtain ⟨fd, F⟩ := F_PoolD_lenD Z
  refine ⟨fd, F.ok sc_PoolD_lenD (fun vs H Q E h => ?_) (fun cdv A outer s H vs Q E hr h => ?_), F.bindsN (fun _ _ _ _ _ _ us hl => match us, hl with | [_], _ => rfl)⟩
  · obtain ⟨_, _, rfl, _⟩ := h
    rfl
  · obtain ⟨x, ps, rfl, ⟨dx, c, hX, xs, hs, hp⟩, hl, hv, k⟩ := h
    have sb := sizeR_bounds hv
    refine ⟨_, PSs.nox (pss_one (ps_ret (pe_callB cr_lenRange (by rfl) (Z.free "len") (by decide +kernel) (pa_cons (pe_callTy cr_range1 (by rfl) (Z.free "range") (by decide +kernel) (pa_cons (pe_callB (cr_sum rfl) (by rfl) (Z.free "sum") (by decide +kernel) (pa_cons (pe_lc (own := [("low", 1), ("high", 2)]) (g := gTup K 2 (gCons (gName 1) (gCons (gName 2) gNil))) (tt := tYes) (by rfl) sc_PoolD_lenD.nd (pi_tup (pe_fld (pv 0) rfl)) (blkOk_by (own := [("low", 1), ("high", 2)]) (N := N_PoolD_lenD) (sc := defScope s_PoolD_lenD) (by decide +kernel)) (fun _ _ _ _ _ => (pg_tup (by rfl) (pgs_cons (pg_name (i := 1) sc_PoolD_lenD.nd rfl (Or.inl rfl)) (pgs_cons (pg_name (i := 2) sc_PoolD_lenD.nd rfl (Or.inl rfl)) pgs_nil)))) (fun _ _ _ _ _ => pts_nil) (fun _ _ _ _ _ => (pe_op op_add (pe_op op_sub (pv 2) (pv 1)) pe_int))) pa_nil)) pa_nil)) pa_nil)))), ?_⟩
    refine ⟨_, rfl, x, _, dx, _, _, rfl, hX, Z.cls "Pool", Z.noat "Pool" "pairs", rfl, c, rfl, ⟨_, hs⟩, fun D hD => lc_it (walk_tup (xs := xs)) (fun i H' => Same H H' ∧ H' D = some (.lst ((ps.take i).map fun p => V.int (p.2 - p.1 + 1)))) ⟨Same.new (Same.refl H) hD, upd_same⟩ (fun i H' _ h => Same.sqT h.1 hs) (fun i it H0' H' hi h y => ?_) (fun H' h => ?_)⟩
    · obtain ⟨rfl, hx⟩ := y
      obtain ⟨p, hpi, t, rfl, ht⟩ := hp.get hx
      refine ⟨t, _, rfl, SqT.of (h.1 _ _ ht), rfl, _, _, rfl, _, _, rfl, rfl, rfl, ?_⟩
      refine ⟨_, rfl, _, rfl, _, _, rfl, rfl, _, _, rfl, rfl, _, h.2, ?_, fun q o e => ?_, ?_⟩
      · rw [List.length_map, List.length_take]
        have : sizeLine = 16777216 := sizeLine_eq
        omega
      · rw [upd_ne (ne_of_none e hD)]
        exact h.1 _ _ e
      · rw [upd_same, map_take_succ _ hpi]
    · refine ⟨D, (ps.map fun p => p.2 - p.1 + 1), rfl, SqL.of ?_, ?_⟩
      · rw [h.2, hp.len, List.take_length, List.map_map]
        rfl
      · refine ⟨_, rfl, fun r hr2 => ?_⟩
        refine ⟨r, _, rfl, upd_same, sb.1, ?_, k _ (Same.new h.1 hr2)⟩
        have : sizeR ps ≤ 1000000000 := by omega
        show sizeR ps < 2 ^ 63
        omega
theorem pool_repr (Z : Zc K mg) : ∃ fd, FnG P w K mg base CX0 1 (He.ma K (He.ga K "Pool") "__repr__") fd ["self"] (spReprP K) ∧ Binds K fd ["self"] [] := by
  obtain ⟨fd, F⟩ := F_PoolD_reprD Z
  refine ⟨fd, fnG F sc_PoolD_reprD (fun vs H Q E h => ?_) (fun cdv A outer s H vs Q E hG hr h => ?_), F.bindsN (fun _ _ _ _ _ _ us hl => match us, hl with | [_], _ => rfl)⟩
  · obtain ⟨_, _, rfl, _⟩ := h
    rfl
  · obtain ⟨x, out, rfl, ⟨dx, c, hX, hR⟩, hl, hv, k⟩ := h
    obtain ⟨e1, e2, e3, e4, e5⟩ := dT_small hv hl
    have sz : sizeLine = 16777216 := sizeLine_eq
    refine ⟨_, PSs.nox (pss_one (ps_ret (pe_joined (.cons pe_str (.cons (pe_fmtD hG hr.units (pe_fld (pv 0) rfl)) (.cons pe_str .nil)))))), ?_⟩
    have l1 : (Str.empty ++ ("Pool(" : Str)).length = 5 := by decide +kernel
    have l2 : (Str.empty ++ ("Pool(" : Str) ++ (dT out).shown).length = 5 + (dT out).shown.length := by rw [strLen_append, l1]
    have l3 : (Str.empty ++ ("Pool(" : Str) ++ (dT out).shown ++ (")" : Str)).length = 5 + (dT out).shown.length + 1 := by rw [strLen_append, l2]; rfl
    refine ⟨_, rfl, by rw [l1]; omega, ?_⟩
    refine ⟨_, rfl, x, _, dx, _, _, rfl, hX, Z.cls "Pool", Z.noat "Pool" "pairs", rfl, dT out, hR.dp, e1, e2, e3, by omega, _, rfl, by rw [l2]; omega, ?_⟩
    exact ⟨_, rfl, by rw [l3]; omega, k⟩
end

/-! ### of the fewest -/
theorem few_valid {ps : List (Int × Int)} (hv : Valid ps) : Valid (fewR ps) := fun o ho => by
  have I := few_inv fun p hp => (hv p hp).2.1
  obtain ⟨p, h1, h2⟩ := I.lo o ho
  obtain ⟨q, h3, h4⟩ := I.hi o ho
  have a := hv p h1
  have b := hv q h3
  have c := I.sep.2 o ho
  exact ⟨by omega, c, by omega⟩
theorem few_len (ps : List (Int × Int)) : (fewR ps).length ≤ ps.length := by
  unfold fewR
  rw [List.length_zip]
  have := Nat.le_trans (len_sortU (ps.filterMap (lowR ps))) (fm_len (lowR ps) ps)
  show min (sortU (ps.filterMap (lowR ps))).length _ ≤ _
  omega
theorem few_ext {ps qs : List (Int × Int)} (hp : ∀ p ∈ ps, p.1 ≤ p.2) (hq : ∀ p ∈ qs, p.1 ≤ p.2) (h : ∀ n, hasR ps n = hasR qs n) : fewR ps = fewR qs := by
  have I := few_inv hp
  refine (few_of hq ⟨I.sep, fun n => (I.cov n).trans (h n), fun o ho => ?_, fun o ho => ?_⟩).symm
  · have a := I.sep.ahead ho
    have v := I.sep.2 o ho
    have h1 : hasR qs o.1 = true := by rw [← h, ← I.cov]; exact hasR_iff.mpr ⟨o, ho, Int.le_refl _, v⟩
    obtain ⟨p, h2, h3, h4⟩ := hasR_iff.mp h1
    refine ⟨p, h2, ?_⟩
    rcases Int.lt_or_le p.1 o.1 with z | z
    · have : hasR qs (o.1 - 1) = true := hasR_iff.mpr ⟨p, h2, by omega, by omega⟩
      rw [← h, ← I.cov, a.1] at this
      cases this
    · omega
  · have a := I.sep.ahead ho
    have v := I.sep.2 o ho
    have h1 : hasR qs o.2 = true := by rw [← h, ← I.cov]; exact hasR_iff.mpr ⟨o, ho, v, Int.le_refl _⟩
    obtain ⟨p, h2, h3, h4⟩ := hasR_iff.mp h1
    refine ⟨p, h2, ?_⟩
    rcases Int.lt_or_le o.2 p.2 with z | z
    · have : hasR qs (o.2 + 1) = true := hasR_iff.mpr ⟨p, h2, by omega, by omega⟩
      rw [← h, ← I.cov, a.2] at this
      cases this
    · omega
theorem few_same {ps qs : List (Int × Int)} (hp : ∀ p ∈ ps, p.1 ≤ p.2) (hq : ∀ p ∈ qs, p.1 ≤ p.2) (h : fewR ps = fewR qs) (n : Int) : hasR ps n = hasR qs n := by
  rw [← (few_inv hp).cov, ← (few_inv hq).cov, h]
theorem few_few {ps : List (Int × Int)} (hv : Valid ps) : fewR (fewR ps) = fewR ps :=
  few_ext (fun p h => (few_valid hv p h).2.1) (fun p h => (hv p h).2.1) fun n => (few_inv fun p h => (hv p h).2.1).cov n
theorem few_rev {ps : List (Int × Int)} (hv : Valid ps) : fewR ps.reverse = fewR ps :=
  few_ext (fun p h => (hv p (List.mem_reverse.mp h)).2.1) (fun p h => (hv p h).2.1) fun n => hasR_perm (List.reverse_perm ps) n
theorem few_sub {ps qs : List (Int × Int)} (hv : Valid ps) (h : ∀ p ∈ qs, p ∈ ps) : fewR (ps ++ qs) = fewR ps := by
  refine few_ext (fun p hp => ?_) (fun p h => (hv p h).2.1) fun n => ?_
  · rcases List.mem_append.mp hp with z | z
    · exact (hv p z).2.1
    · exact (hv p (h p z)).2.1
  · rw [hasR_app]
    refine bool_eq ?_
    rw [Bool.or_eq_true]
    refine ⟨fun z => z.elim id fun z => ?_, .inl⟩
    obtain ⟨p, a, b⟩ := hasR_iff.mp z
    exact hasR_iff.mpr ⟨p, h p a, b⟩
theorem few_more {ps : List (Int × Int)} {f : Int} (hv : Valid ps) (h0 : 0 ≤ f) (h1 : f ≤ 999999) (hf : hasR ps f = false) : ¬ fewR (ps ++ [(f, f)]) = fewR ps := fun e => by
  have := few_same (fun p h => ((hv.app (p := (f, f)) ⟨h0, Int.le_refl _, h1⟩) p h).2.1) (fun p h => (hv p h).2.1) e f
  rw [hf, hasR_app, hf, hasR_one, Bool.false_or] at this
  have q : inR (f, f) f = true := inR_iff.mpr ⟨Int.le_refl _, Int.le_refl _⟩
  rw [q] at this
  cases this
theorem Valid.rev {ps : List (Int × Int)} (h : Valid ps) : Valid ps.reverse := fun p hp => h p (List.mem_reverse.mp hp)
theorem Valid.cat {ps qs : List (Int × Int)} (h : Valid ps) (k : Valid qs) : Valid (ps ++ qs) := fun p hp => (List.mem_append.mp hp).elim (h p) (k p)
theorem Prs.rev {H : Hp} : ∀ {xs : List V} {ps : List (Int × Int)}, Prs H xs ps → Prs H xs.reverse ps.reverse
  | _, _, .nil => .nil
  | _, _, .cons h t => by
    rw [List.reverse_cons, List.reverse_cons]
    exact (Prs.rev t).app (.cons h .nil)
theorem Prs.take {H : Hp} : ∀ (n : Nat) {xs : List V} {ps : List (Int × Int)}, Prs H xs ps → Prs H (xs.take n) (ps.take n)
  | 0, _, _, _ => by rw [List.take_zero, List.take_zero]; exact .nil
  | n + 1, _, _, .nil => .nil
  | n + 1, _, _, .cons h t => .cons h (Prs.take n t)
theorem atI_head (x : V) (t : List V) : atI (x :: t) 0 = some x := by
  show (ixN (x :: t).length 0).bind (fun j => (x :: t)[j]?) = _
  unfold ixN
  rw [if_pos (by decide), if_pos (by rw [List.length_cons]; omega)]
  rfl
theorem dp_ints {K : PySem.W.Frag} {H : Hp} : ∀ ns : List Int, DpAll K H (ns.map V.int) (ns.map PyData.int)
  | [] => .nil
  | n :: t => .cons (.int n) (dp_ints t)
theorem shaped_ints (ns : List Int) : SeqAt.shaped (PyData.list (ns.map PyData.int)) = true := by
  have h1 : ∀ ns : List Int, PyData.canLayAll0 (ns.map PyData.int) = true := fun ns => by
    induction ns with
    | nil => rfl
    | cons a t ih =>
      show (true && PyData.canLayAll0 (t.map PyData.int)) = true
      rw [ih]
      rfl
  have h2 : ∀ ns : List Int, PyData.depthAll (ns.map PyData.int) = 0 := fun ns => by
    induction ns with
    | nil => rfl
    | cons a t ih =>
      show max 0 (PyData.depthAll (t.map PyData.int)) = 0
      rw [ih]
      rfl
  show (PyData.canLayAll0 _ && decide (PyData.depthAll _ + 1 ≤ 64)) = true
  rw [h1, h2]
  rfl

/-! ### a pool is right -/
def spRight (K : PySem.W.Frag) : Sp := fun vs H Q _ => ∃ (a x : Addr) (ps : List (Int × Int)), vs = [.ref a, .ref x] ∧ Rows K H a ps ∧ Valid ps ∧ ps.length ≤ 50 ∧ PoolAt K H x (fewR ps) ∧ ∀ H', Same H H' → Q (.bl true) H'
theorem lay_int {n : Int} (h0 : 0 ≤ n) (h1 : n ≤ 1000000000) : Lay (.int n) := by
  refine ⟨rfl, by show 0 ≤ 60; decide, ?_⟩
  show (if n == 0 then 0 else n.natAbs.log2 + 1) ≤ 1000000
  have h20 : n.natAbs.log2 < 40 := PySem.Flt.log2_lt_of (by decide) (by rw [show (2 : Nat) ^ 40 = 1099511627776 from rfl]; omega)
  split <;> omega
theorem size_sum (ps : List (Int × Int)) : (ps.map fun p => p.2 + 1 - p.1).sum = sizeR ps := by
  unfold sizeR
  congr 1
  exact List.map_congr_left fun p _ => by omega
theorem out_has {ps : List (Int × Int)} (hv : Valid ps) {n : Int} (h : n < 0 ∨ 999999 < n) : hasR ps n = false := by
  cases e : hasR ps n with
  | false => rfl
  | true =>
    obtain ⟨p, h1, h2, h3⟩ := hasR_iff.mp e
    have := hv p h1
    omega
theorem depth_dT (out : List (Int × Int)) : (dT out).depth ≤ 2 := by
  have dp := depth_pairs out
  have dd : (dT out).depth = PyData.depthAll (out.map fun p => PyData.tuple [.int p.1, .int p.2]) + 1 := rfl
  omega
section
variable {P : Program} {w : World} {K : PySem.W.Frag} {mg : Str → Option Value} {base : Heap}
theorem D_right (Z : Zc K mg) : Dn P w K mg base CX0 "_law_right" 4 ["_law_rows", "_law_pool"] (spRight K) := by
  have D_l_fewest : Dn P w K mg base CX0 "_law_fewest" 2 ["_law_rows"] (spFewL K) := D_lfewest Z
  have D_l_same : Dn P w K mg base CX0 "_law_same" 3 ["_law_here", "_law_there"] (spSame K 3) := D_same Z 3
  have D_l_has : Dn P w K mg base CX0 "_law_has" 1 ["_law_rows", "_law_number"] (spHas K) := D_has Z
  obtain ⟨fdS, G_stretches, b_stretches_0⟩ := pool_stretches (P := P) (w := w) (base := base) Z
  have v_stretches_0 : Vals [] [] := .nil
  obtain ⟨fdL, G___len__, b___len___0⟩ := pool_len (P := P) (w := w) (base := base) Z
  obtain ⟨fdH, G_has, b_has_1⟩ := pool_has (P := P) (w := w) (base := base) Z
  have v_has_1 : Vals [] [] := .nil
  obtain ⟨fd, F⟩ := F_l_right Z
  refine ⟨_, fd, Z.glo "_law_right", F.kp, F.bindsN (fun _ _ _ _ _ _ us hl => match us, hl with | [_, _], _ => rfl), F.ok sc_l_right (fun vs H Q E h => ?_) (fun cdv A outer s H vs Q E hr h => ?_)⟩
  · obtain ⟨_, _, _, rfl, _⟩ := h
    rfl
  · obtain ⟨a, x, ps, rfl, hR, hv, hl, hP, k⟩ := h
    have hvo := few_valid hv
    have hlo := few_len ps
    have I := few_inv fun p h => (hv p h).2.1
    refine ⟨_, PSs.nox (pss_cons (ps_set (i := 2) sc_l_right.nd rfl (Or.inl rfl) (pe_d D_l_fewest (hr.mono (by decide)) (by rfl) pass0 (pa_cons (pv 0) pa_nil)))
      (pss_cons (ps_set (i := 3) sc_l_right.nd rfl (Or.inl rfl) (pe_callB (cr_sum rfl) (by rfl) (Z.free "sum") (by decide +kernel) (pa_cons (pe_lc (own := [("_law_begin", 4), ("_law_end", 5)]) (g := gTup K 2 (gCons (gName 4) (gCons (gName 5) gNil))) (tt := tYes) (by rfl) sc_l_right.nd (pi_tup (pv 2)) (blkOk_by (own := [("_law_begin", 4), ("_law_end", 5)]) (N := N_l_right) (sc := defScope s_l_right) (by decide +kernel)) (fun _ _ _ _ _ => (pg_tup (by rfl) (pgs_cons (pg_name (i := 4) sc_l_right.nd rfl (Or.inl rfl)) (pgs_cons (pg_name (i := 5) sc_l_right.nd rfl (Or.inl rfl)) pgs_nil)))) (fun _ _ _ _ _ => pts_nil) (fun _ _ _ _ _ => (pe_op op_sub (pe_op op_add (pv 5) pe_int) (pv 4)))) pa_nil)))
      (pss_cons (ps_if (PW.pt (pw_or (pt_not (pt_val (pe_d D_l_same (hr.mono (by decide)) (by rfl) pass0 (pa_cons (pe_meth0 (pv 1) (Z.cls "Pool") (Z.meth "Pool" "stretches") G_stretches (hr.mono (by decide)) b_stretches_0 v_stretches_0 pass0) (pa_cons (pv 2) pa_nil))))) (pw_or1 (pt_not (pt_val (pe_d D_l_same (hr.mono (by decide)) (by rfl) pass0 (pa_cons (pe_callB (cr_lenOwn G___len__ (Z.meth "Pool" "__len__") b___len___0 pass0 (hr.mono (by decide))) (by rfl) (Z.free "len") (by decide +kernel) (pa_cons (pv 1) pa_nil)) (pa_cons (pv 3) pa_nil)))))))) (pss_one (ps_ret pe_bl)) pss_nil)
      (pss_cons (ps_for PassesOwn.never rfl (pi_tup (pv 0)) (pg_tup (by rfl) (pgs_cons (pg_name (i := 4) sc_l_right.nd rfl (Or.inl rfl)) (pgs_cons (pg_name (i := 5) sc_l_right.nd rfl (Or.inl rfl)) pgs_nil)))
      (pss_one (ps_for PassesOwn.never rfl (pi_list (pe_lst (pa_cons (pe_op op_sub (pv 4) pe_int) (pa_cons (pv 4) (pa_cons (pe_op op_fdivW (pe_op op_add (pv 4) (pv 5)) pe_int) (pa_cons (pv 5) (pa_cons (pe_op op_add (pv 5) pe_int) pa_nil))))))) (pg_name (i := 6) sc_l_right.nd rfl (Or.inl rfl))
      (pss_cons (ps_set (i := 7) sc_l_right.nd rfl (Or.inl rfl) (pe_meth (pv 1) (Z.cls "Pool") (Z.meth "Pool" "has") G_has (hr.mono (by decide)) b_has_1 v_has_1 pass0 (pa_cons (pv 6) pa_nil)))
      (pss_one (ps_if (PW.pt (pw_or (pt_not (pt_val (pe_callB call_isi (by rfl) (Z.free "isinstance") (by decide +kernel) (pa_cons (pv 7) (pa_cons (pe_bltn (v := .ty "bool") (by rfl) (Z.free "bool") (by decide +kernel) rfl) pa_nil))))) (pw_or1 (pt_cmpR op_ne (pv 7) (pe_d D_l_has (hr.mono (by decide)) (by rfl) pass0 (pa_cons (pv 0) (pa_cons (pv 6) pa_nil))) (nomark _))))) (pss_one (ps_ret pe_bl)) pss_nil))))))
      (pss_one (ps_ret (pe_and (pe_cmpR op_isBl (pe_meth (pv 1) (Z.cls "Pool") (Z.meth "Pool" "has") G_has (hr.mono (by decide)) b_has_1 v_has_1 pass0 (pa_cons (pe_un un_neg pe_int) pa_nil)) pe_bl (nomark _)) (pe_one (pe_cmpR op_isBl (pe_meth (pv 1) (Z.cls "Pool") (Z.meth "Pool" "has") G_has (hr.mono (by decide)) b_has_1 v_has_1 pass0 (pa_cons (pe_op op_powW pe_int pe_int) pa_nil)) pe_bl (nomark _)))))))))), ?_⟩
    refine ⟨_, rfl, a, ps, rfl, hR, by omega, fun c H1 w1 hR1 => ?_⟩
    generalize hout : fewR ps = out at hR1 hvo hlo hP I
    obtain ⟨xs, hs, hp⟩ := hR1
    refine ⟨_, rfl, c, rfl, ⟨_, hs⟩, fun D hD => lc_it (walk_tup (xs := xs)) (fun i H' => Same H1 H' ∧ H' D = some (.lst ((out.take i).map fun p => V.int (p.2 + 1 - p.1)))) ⟨Same.new (Same.refl H1) hD, upd_same⟩ (fun i H' _ h => Same.sqT h.1 hs) (fun i it H0' H' hi h y => ?_) (fun H' h => ?_)⟩
    · obtain ⟨rfl, hx⟩ := y
      obtain ⟨p, hpi, t, rfl, ht⟩ := hp.get hx
      refine ⟨t, _, rfl, SqT.of (h.1 _ _ ht), rfl, _, _, rfl, _, _, rfl, rfl, rfl, ?_⟩
      refine ⟨_, rfl, _, _, rfl, rfl, _, rfl, _, _, rfl, rfl, _, h.2, ?_, fun q o e => ?_, ?_⟩
      · rw [List.length_map, List.length_take]
        have : sizeLine = 16777216 := sizeLine_eq
        omega
      · rw [upd_ne (ne_of_none e hD)]
        exact h.1 _ _ e
      · rw [upd_same, map_take_succ _ hpi]
    · obtain ⟨w2, h2⟩ := h
      rw [hp.len, List.take_length] at h2
      refine ⟨D, (out.map fun p => p.2 + 1 - p.1), rfl, SqL.of (by rw [h2, List.map_map]; rfl), ?_⟩
      rw [size_sum]
      have w3 : Same H H' := w1.trans w2
      have hP3 := hP.same w3
      have hR3 := hR.same w3
      have hc3 : Rows K H' c out := ⟨xs, Same.sqT w2 hs, Prs.imp (fun _ _ q => q.same w2) hp⟩
      have sb := sizeR_bounds hvo
      obtain ⟨e1, e2, e3, e4, e5⟩ := dT_small hvo (show out.length ≤ 1000 by omega)
      obtain ⟨dx3, cx3, hX3, hRx3⟩ := id hP3
      refine ⟨_, rfl, x, dx3, _, rfl, hX3, rfl, x, out, rfl, hP3, fun c3 hR4 => ?_⟩
      refine ⟨_, rfl, _, _, dT out, dT out, rfl, hR4.dp, hc3.dp, e5, e5, depth_dT out, depth_dT out, fun H4 w4 => ?_⟩
      rw [sameD_refl _ e5.can]
      refine ⟨true, rfl, iteF ?_⟩
      have hP4 := hP3.same w4
      obtain ⟨dx4, cx4, hX4, hRx4⟩ := id hP4
      refine ⟨_, rfl, x, dx4, _, rfl, hX4, x, out, rfl, hP4, by omega, hvo, fun H5 w5 => ⟨_, rfl, ⟨sb.1, by omega⟩, ?_⟩⟩
      have ly : Lay (.int (sizeR out)) := lay_int sb.1 (by omega)
      refine ⟨_, rfl, _, _, .int (sizeR out), .int (sizeR out), rfl, .int _, .int _, ly, ly, by show 0 ≤ 2; decide, by show 0 ≤ 2; decide, fun H6 w6 => ?_⟩
      rw [sameD_refl _ ly.can]
      refine ⟨true, rfl, iteF ?_⟩
      have w7 : Same H' H6 := (w4.trans w5).trans w6
      have hP6 := hP3.same w7
      have hR6 := hR3.same w7
      obtain ⟨ys, hs6, hp6⟩ := hR6
      refine ⟨_, rfl, a, rfl, ⟨_, hs6⟩, for_it (walk_tup (xs := ys)) (fun i σ H7 => Same H6 H7 ∧ ∃ v4 v5 v6 v7 : Option V, σ = [some (.ref a), some (.ref x), some (.ref c), some (.int (sizeR out)), v4, v5, v6, v7])
        ⟨Same.refl H6, _, _, _, _, rfl⟩ (fun i σ H7 _ h => Same.sqT h.1 hs6) (fun i it σ H0' H7 hi h y => ?_) (fun σ H7 h => ?_)⟩
      · obtain ⟨rfl, hx⟩ := y
        obtain ⟨w8, v4, v5, v6, v7, rfl⟩ := h
        obtain ⟨p, hpi, t, rfl, ht⟩ := hp6.get hx
        have hP8 := hP6.same w8
        have hR8 : Rows K H7 a ps := Rows.same ⟨ys, hs6, hp6⟩ w8
        refine ⟨t, _, rfl, SqT.of (w8 _ _ ht), rfl, _, _, rfl, _, _, rfl, rfl, ?_⟩
        refine ⟨_, rfl, _, _, rfl, rfl, _, rfl, _, rfl, _, rfl, _, _, rfl, rfl, _, _, rfl, rfl, ⟨by decide, by decide⟩, _, rfl, _, rfl, _, _, rfl, rfl, (show 5 ≤ sizeLine by decide), fun q hq => ⟨q, rfl, ⟨_, SqL.of upd_same⟩, ?_⟩⟩
        have w9 : Same H7 (upd H7 q (.lst [.int (p.1 - 1), .int p.1, .int ((p.1 + p.2) / 2), .int p.2, .int (p.2 + 1)])) := Same.new (Same.refl H7) hq
        refine for_it (walk_list (xs := [p.1 - 1, p.1, (p.1 + p.2) / 2, p.2, p.2 + 1].map V.int)) (fun i σ H8 => Same (upd H7 q (.lst [.int (p.1 - 1), .int p.1, .int ((p.1 + p.2) / 2), .int p.2, .int (p.2 + 1)])) H8 ∧ ∃ u6 u7 : Option V, σ = [some (.ref a), some (.ref x), some (.ref c), some (.int (sizeR out)), some (.int p.1), some (.int p.2), u6, u7])
          ⟨Same.refl _, _, _, rfl⟩ (fun i σ H8 _ h => h.1.seq (SqL.of upd_same)) (fun i it σ H0' H8 hi h y => ?_) (fun σ H8 h => ?_)
        · obtain ⟨rfl, hx⟩ := y
          obtain ⟨w10, u6, u7, rfl⟩ := h
          rw [List.getElem?_map, Option.map_eq_some_iff] at hx
          obtain ⟨m, _, rfl⟩ := hx
          have hP9 := (hP8.same w9).same w10
          have hR9 := (hR8.same w9).same w10
          obtain ⟨dx9, cx9, hX9, hRx9⟩ := id hP9
          refine ⟨_, rfl, x, dx9, _, rfl, hX9, rfl, _, rfl, x, out, m, rfl, hP9, by omega, fun H9 w11 => ?_⟩
          refine ⟨_, rfl, _, _, _, _, true, rfl, .ty "bool", (Dp.ty (.bl _)), kit_d K (.bool (hasR out m)) "bool" (by decide), true, rfl, iteF ?_⟩
          refine ⟨_, rfl, _, rfl, _, rfl, a, ps, m, rfl, hR9.same w11, by omega, fun H10 w12 => ?_⟩
          rw [I.cov m]
          exact ⟨rfl, _, rfl, iteNS rfl ⟨(w10.trans w11).trans w12, _, _, rfl⟩⟩
        · obtain ⟨w10, u6, u7, rfl⟩ := h
          exact ⟨(w8.trans w9).trans w10, _, _, _, _, rfl⟩
      · obtain ⟨w8, v4, v5, v6, v7, rfl⟩ := h
        have hP8 := hP6.same w8
        obtain ⟨dx8, cx8, hX8, hRx8⟩ := id hP8
        refine ⟨_, rfl, x, dx8, _, rfl, hX8, rfl, 1, rfl, x, out, -1, rfl, hP8, by omega, fun H9 w9 => ?_⟩
        have hP9 := hP8.same w9
        obtain ⟨dx9, cx9, hX9, hRx9⟩ := id hP9
        rw [out_has hvo (.inl (by decide))]
        refine ⟨_, _, rfl, rfl, ?_⟩
        refine ⟨true, rfl, iteT ?_⟩
        refine ⟨_, rfl, x, dx9, _, rfl, hX9, rfl, _, _, rfl, rfl, ⟨by decide, by decide +kernel⟩, x, out, 10 ^ 6, rfl, hP9, by omega, fun H10 w10 => ?_⟩
        rw [out_has hvo (.inr (by decide))]
        exact ⟨_, _, rfl, rfl, k _ ((((w3.trans w7).trans w8).trans w9).trans w10)⟩
end

/-! ### pools made and compared -/
theorem seq_rest {A B : TS} {D} {σ : L2.St} {H : Hp} (J : L2.St → Hp → Prop) (h2 : ∀ σ' H', J σ' H' → B D σ' H') (h1 : (∀ σ' H', J σ' H' → B D σ' H') → tSeq A B D σ H) : tSeq A B D σ H := h1 h2
theorem nx_seq {A B : TS} {D : Ends} {rt : VK} {bk ct : L2.St → Hp → Prop} {σ : L2.St} {H : Hp} (h : tSeq A B D σ H) : tNext ⟨tSeq A B D, rt, bk, ct⟩ σ H := h
theorem nm_seq {A B : TS} {D : Ends} {rt : VK} {bk ct : L2.St → Hp → Prop} {i : Nat} {v : V} {σ : L2.St} {H : Hp} (h : tSeq A B D (σ.set i (some v)) H) : gName i v σ H (Ends.mk (tSeq A B D) rt bk ct).nx := h
theorem cut1 (xs : List V) : cutV xs none (some 1) = xs.take 1 := by
  show (xs.drop 0).take (HT.sIx xs.length xs.length (some ((1 : Nat) : Int)) - 0) = xs.take 1
  rw [HT.sIx_nat, List.drop_zero, Nat.sub_zero]
  cases xs with
  | nil => rfl
  | cons x t =>
    rw [List.length_cons, show min 1 (t.length + 1) = 1 by omega]
section
variable {K : PySem.W.Frag} {mg : Str → Option Value}
theorem mk_pool {Q : Addr → VK} {E : XK} {H : Hp} {c : Addr} {qs out : List (Int × Int)} (hR : Rows K H c qs) (hv : Valid qs) (hl : qs.length ≤ 20) (e : fewR qs = out) (k : ∀ x H', Same H H' → PoolAt K H' x out → Q x .non H') :
    ∀ x dx, H x = none → H dx = none → dx ≠ x → spInit K [.ref x, .ref c] (upd (upd H dx (.own x)) x (.ins (He.ga K "Pool") dx [])) (Q x) E := by
  intro x dx hx hdx ne
  have w4 : Same H (upd (upd H dx (.own x)) x (.ins (He.ga K "Pool") dx [])) := fun p o e => by
    rw [upd_ne (ne_of_none e hx), upd_ne (ne_of_none e hdx)]
    exact e
  refine ⟨x, dx, c, qs, rfl, upd_same, hR.same w4, hv, hl, fun H4 b4 hP4 => k x H4 (fun p o e => b4 p o (ne_of_none e hx) (w4 p o e)) ?_⟩
  rw [← e]
  exact hP4
theorem own_first (K : PySem.W.Frag) (C : Addr) : PySem.W.notFirst K C (.ref C) = true := by
  unfold PySem.W.notFirst
  rw [beq_self_eq_true]
  rfl
theorem rd_eq (Z : Zc K mg) (OC : OwnC K (He.ga K "Pool") ownTs) {Q : VK} {E : XK} {H : Hp} {x y : Addr} {out out2 : List (Int × Int)} (hx : PoolAt K H x out) (hy : PoolAt K H y out2) (k : Q (.bl (decide (out = out2))) H) :
    ∃ a dx fs t, V.ref x = .ref a ∧ H a = some (.ins (He.ga K "Pool") dx fs) ∧ TyX K H (.ref y) t ∧ PySem.W.notFirst K (He.ga K "Pool") t = true ∧ spEqP K [.ref a, .ref y] H Q E := by
  obtain ⟨dx, cx, h1, h2⟩ := id hx
  obtain ⟨dy, cy, h3, h4⟩ := id hy
  exact ⟨x, dx, _, _, rfl, h1, OC.ty (Z.cls "Pool") h3, own_first _ _, x, out, _, rfl, hx, .inl ⟨y, out2, rfl, hy, k⟩⟩
theorem rd_eqO (OC : OwnC K (He.ga K "Pool") ownTs) {Q : VK} {E : XK} {H : Hp} {x : Addr} {v : V} {t : String} {out : List (Int × Int)} (hx : PoolAt K H x out) (ht : t ∈ ownTs) (ty : TyX K H v (.type t)) (k : Q (.bl false) H) :
    ∃ a dx fs t, V.ref x = .ref a ∧ H a = some (.ins (He.ga K "Pool") dx fs) ∧ TyX K H v t ∧ PySem.W.notFirst K (He.ga K "Pool") t = true ∧ spEqP K [.ref a, v] H Q E := by
  obtain ⟨dx, cx, h1, h2⟩ := id hx
  exact ⟨x, dx, _, _, rfl, h1, ty, (OC.ts t ht).1, x, out, _, rfl, hx, .inr ⟨t, ht, ty, k⟩⟩
theorem rd_cat {H : Hp} {a b : Addr} {ps qs : List (Int × Int)} {Q : VK} (ha : Rows K H a ps) (hb : Rows K H b qs) (hl : ps.length + qs.length ≤ 1000000) (k : ∀ r H', Same H H' → Rows K H' r (ps ++ qs) → Q (.ref r) H') : rCatA K (.ref a) (.ref b) H Q := by
  obtain ⟨xs, h1, h2⟩ := id ha
  obtain ⟨ys, h3, h4⟩ := id hb
  have l1 := h2.len
  have l2 := h4.len
  have sz : sizeLine = 16777216 := sizeLine_eq
  refine ⟨a, b, xs, ys, rfl, rfl, h1, h3, by omega, fun e => ?_, fun _ e => ?_, fun _ _ p hp => ?_⟩
  · subst e
    cases h2
    exact k b H (Same.refl H) hb
  · subst e
    cases h4
    refine k a H (Same.refl H) ?_
    rw [List.append_nil]
    exact ha
  · have w := Same.new (o := .tup (xs ++ ys)) (Same.refl H) hp
    exact k p _ w ⟨_, SqT.of upd_same, Prs.imp (fun _ _ q => q.same w) (h2.app h4)⟩
theorem rd_take1 {H : Hp} {a : Addr} {ps : List (Int × Int)} {Q : VK} (ha : Rows K H a ps) (k : ∀ r H', Same H H' → Rows K H' r (ps.take 1) → Q (.ref r) H') : rSlA K (.ref a) none (some 1) H Q := by
  obtain ⟨xs, h1, h2⟩ := id ha
  have l1 := h2.len
  refine ⟨a, xs, rfl, h1, fun ⟨_, e⟩ => ?_, fun _ p hp => ?_⟩
  · have e2 : HT.sIx xs.length xs.length (some ((1 : Nat) : Int)) = xs.length := e
    rw [HT.sIx_nat] at e2
    refine k a H (Same.refl H) ?_
    rw [List.take_of_length_le (by omega)]
    exact ha
  · rw [cut1]
    have w := Same.new (o := .tup (xs.take 1)) (Same.refl H) hp
    exact k p _ w ⟨_, SqT.of upd_same, Prs.imp (fun _ _ q => q.same w) (h2.take 1)⟩
end

/-! ### pools alike -/
def spAlike (K : PySem.W.Frag) : Sp := fun vs H Q _ => ∃ (x a : Addr) (ps : List (Int × Int)), vs = [.ref x, .ref a] ∧ Rows K H a ps ∧ Valid ps ∧ ps.length ≤ 20 ∧ PoolAt K H x (fewR ps) ∧ ∀ H', Same H H' → Q (.bl true) H'
def freeR (ps : List (Int × Int)) (n : Nat) : List Int := ((List.range n).map fun (j : Nat) => (0 + (j : Int))).filter fun k => !hasR ps k
theorem freeR_succ (ps : List (Int × Int)) (n : Nat) : freeR ps (n + 1) = freeR ps n ++ (if hasR ps (0 + n) then [] else [0 + (n : Int)]) := by
  unfold freeR
  rw [List.range_succ, List.map_append, List.filter_append, List.map_singleton]
  congr 1
  by_cases h : hasR ps (0 + (n : Int)) = true
  · rw [if_pos h]
    simp only [List.filter_cons, h]
    rfl
  · rw [if_neg h]
    rw [Bool.not_eq_true] at h
    simp only [List.filter_cons, h]
    rfl
theorem freeR_len (ps : List (Int × Int)) (n : Nat) : (freeR ps n).length ≤ n := by
  refine Nat.le_trans (List.length_filter_le _ _) ?_
  rw [List.length_map, List.length_range]
  exact Nat.le_refl _
theorem freeR_mem {ps : List (Int × Int)} {n : Nat} {f : Int} (h : f ∈ freeR ps n) : 0 ≤ f ∧ f < n ∧ hasR ps f = false := by
  obtain ⟨h1, h2⟩ := List.mem_filter.mp h
  obtain ⟨j, hj, rfl⟩ := List.mem_map.mp h1
  have := List.mem_range.mp hj
  exact ⟨by omega, by omega, by simpa using h2⟩
theorem dp_str_ty {K : PySem.W.Frag} {H : Hp} (z : Str) : TyX K H (.str z) (.type "str") := Dp.ty (.str z)
section
variable {P : Program} {w : World} {K : PySem.W.Frag} {mg : Str → Option Value} {base : Heap}
theorem D_alike (Z : Zc K mg) (OC : OwnC K (He.ga K "Pool") ownTs) : DnG P w K mg base CX0 "_law_alike" 8 ["_law_pool", "_law_rows"] (spAlike K) := by
  have D_l_fewest : Dn P w K mg base CX0 "_law_fewest" 2 ["_law_rows"] (spFewL K) := D_lfewest Z
  have D_l_has : Dn P w K mg base CX0 "_law_has" 1 ["_law_rows", "_law_number"] (spHas K) := D_has Z
  obtain ⟨fdI, FI, G_Pool, b_Pool_1, dsI, v_Pool_0, b_Pool_0⟩ := pool_initF (P := P) (w := w) (base := base) Z
  have v_Pool_1 : Vals [] [] := .nil
  obtain ⟨iK, kb_Pool_0_stretches⟩ := FI.kbindsD (ps := ["self", "stretches"]) 1 ["stretches"] (fun us _ ws => us ++ ws) (List.cons_ne_nil _ _) (fun r1 _ r3 => r1.append r3)
    (fun T kV doc pm an cdv ct us its ws hu hi hw => match us, hu, its, hi, ws, hw with | [_], _, [_], _, [_], _ => ⟨_, rfl, rfl⟩)
  obtain ⟨fdE, G___eq__, b___eq___1⟩ := pool_eq (P := P) (w := w) (base := base) Z OC
  obtain ⟨fdL, G___len__, b___len___0⟩ := pool_len (P := P) (w := w) (base := base) Z
  obtain ⟨fdR, G___repr__, b___repr___0⟩ := pool_repr (P := P) (w := w) (base := base) Z
  obtain ⟨fd, F⟩ := F_l_alike Z
  refine ⟨_, fd, Z.glo "_law_alike", F.kp, F.bindsN (fun _ _ _ _ _ _ us hl => match us, hl with | [_, _], _ => rfl), fnG F sc_l_alike (fun vs H Q E h => ?_) (fun cdv A outer s H vs Q E hG hr h => ?_)⟩
  · obtain ⟨_, _, _, rfl, _⟩ := h
    rfl
  · obtain ⟨x, a, ps, rfl, hR, hv, hl, hP, k⟩ := h
    have hvo := few_valid hv
    have hlo := few_len ps
    have sz : sizeLine = 16777216 := sizeLine_eq
    refine ⟨_, PSs.nox (pss_cons (ps_set (i := 2) sc_l_alike.nd rfl (Or.inl rfl) (pe_d D_l_fewest (hr.mono (by decide)) (by rfl) pass0 (pa_cons (pv 1) pa_nil)))
      (pss_cons (ps_if (PW.pt (pw_or (pt_not (pt_cmpR (op_eqOwn G___eq__ (Z.meth "Pool" "__eq__") b___eq___1 pass0 (hr.mono (by decide))) (pe_make (Z.mkr "Pool") G_Pool (hr.mono (by decide)) (by rfl) (Z.glo "Pool") b_Pool_1 v_Pool_1 pass0 (pa_cons (pv 2) pa_nil)) (pv 0) (nomark _))) (pw_or (pt_not (pt_cmpR (op_eqOwn G___eq__ (Z.meth "Pool" "__eq__") b___eq___1 pass0 (hr.mono (by decide))) (pv 0) (pe_makeN0 (Z.mkr "Pool") G_Pool (hr.mono (by decide)) (by rfl) (Z.glo "Pool") kb_Pool_0_stretches pass0 (pk_cons (pe_revT (pv 1)) pk_nil)) (nomark _))) (pw_or1 (pt_cmpR (op_neOwn G___eq__ (Z.meth "Pool" "__eq__") OC b___eq___1 pass0 (hr.mono (by decide))) (pv 0) (pe_make (Z.mkr "Pool") G_Pool (hr.mono (by decide)) (by rfl) (Z.glo "Pool") b_Pool_1 v_Pool_1 pass0 (pa_cons (pv 1) pa_nil)) (nomark _)))))) (pss_one (ps_ret pe_bl)) pss_nil)
      (pss_cons (ps_if (PW.pt (pw_and (pt_cmpR op_lt (pe_callB call_len_seq (by rfl) (Z.free "len") (by decide +kernel) (pa_cons (pv 1) pa_nil)) pe_int (nomark _)) (pw_and1 (pt_not (pt_cmpR (op_eqOwn G___eq__ (Z.meth "Pool" "__eq__") b___eq___1 pass0 (hr.mono (by decide))) (pe_make (Z.mkr "Pool") G_Pool (hr.mono (by decide)) (by rfl) (Z.glo "Pool") b_Pool_1 v_Pool_1 pass0 (pa_cons (pe_op op_catA (pv 1) (pe_slice sl_tupA (pv 1) po_none (po_some pe_int))) pa_nil)) (pv 0) (nomark _)))))) (pss_one (ps_ret pe_bl)) pss_nil)
      (pss_cons (ps_setLc (i := 3) (own := [("_law_number", 4)]) (g := gName 4) (by rfl) sc_l_alike.nd rfl rfl (sw_true rfl rfl rfl (by decide +kernel)) (pi_range1 (by rfl) (Z.free "range") (pa_cons pe_int pa_nil)) (blkOk_by (own := [("_law_number", 4)]) (N := N_l_alike) (sc := defScope s_l_alike) (by decide +kernel)) (fun _ _ _ _ _ => (pg_name (i := 4) sc_l_alike.nd rfl (Or.inl rfl))) (fun _ _ _ _ _ => (pts_one (pt_not (pt_val (pe_d D_l_has (hr.mono (by decide)) (by rfl) pass0 (pa_cons (pv 1) (pa_cons (pv 4) pa_nil))))))) (fun _ _ _ _ _ => (pv 4)))
      (pss_cons (ps_if (PW.pt (pw_and (pt_cmpR op_lt (pe_callB call_len_seq (by rfl) (Z.free "len") (by decide +kernel) (pa_cons (pv 1) pa_nil)) pe_int (nomark _)) (pw_and (pt_cmpR (op_neD hr.units) (pv 3) (pe_lst pa_nil) (nomark _)) (pw_and1 (pt_cmpR (op_eqOwn G___eq__ (Z.meth "Pool" "__eq__") b___eq___1 pass0 (hr.mono (by decide))) (pe_make (Z.mkr "Pool") G_Pool (hr.mono (by decide)) (by rfl) (Z.glo "Pool") b_Pool_1 v_Pool_1 pass0 (pa_cons (pe_op op_catA (pv 1) (pe_tup (pa_cons (pe_tup (pa_cons (pe_ix ix_list (pv 3) pe_int (fun _ _ => rfl)) (pa_cons (pe_ix ix_list (pv 3) pe_int (fun _ _ => rfl)) pa_nil))) pa_nil))) pa_nil)) (pv 0) (nomark _)))))) (pss_one (ps_ret pe_bl)) pss_nil)
      (pss_one (ps_ret (pe_and (pe_not (pe_cmpR (op_eqOwn G___eq__ (Z.meth "Pool" "__eq__") b___eq___1 pass0 (hr.mono (by decide))) (pv 0) (pv 2) (nomark _))) (pe_and (pe_not (pe_cmpR (op_eqOwn G___eq__ (Z.meth "Pool" "__eq__") b___eq___1 pass0 (hr.mono (by decide))) (pv 0) (pe_callB (cr_reprOwn G___repr__ (Z.meth "Pool" "__repr__") b___repr___0 pass0 hG (hr.mono (by decide))) (by rfl) (Z.free "repr") (by decide +kernel) (pa_cons (pv 0) pa_nil)) (nomark _))) (pe_and (pe_not (pe_cmpR (op_eqOwn G___eq__ (Z.meth "Pool" "__eq__") b___eq___1 pass0 (hr.mono (by decide))) (pv 0) pe_non (nomark _))) (pe_one (pe_cmpR (op_neOwn G___eq__ (Z.meth "Pool" "__eq__") OC b___eq___1 pass0 (hr.mono (by decide))) (pv 0) (pe_callB (cr_lenOwn G___len__ (Z.meth "Pool" "__len__") b___len___0 pass0 (hr.mono (by decide))) (by rfl) (Z.free "len") (by decide +kernel) (pa_cons (pv 0) pa_nil)) (nomark _))))))))))))), ?_⟩
    refine ⟨_, rfl, a, ps, rfl, hR, by omega, fun c H1 w1 hc1 => ?_⟩
    refine ⟨_, rfl, mk_pool hc1 hvo (by omega) (few_few hv) fun y H2 w2 hy => ⟨rfl, ?_⟩⟩
    have w2' := w1.trans w2
    refine ⟨_, rfl, rd_eq Z OC hy (hP.same w2') ⟨_, rfl, _, rfl, iteNS rfl ?_⟩⟩
    obtain ⟨xs, hs, hp⟩ := id hR
    refine ⟨_, rfl, _, rfl, a, xs, rfl, Same.sqT w2' hs, fun r hr0 => ?_⟩
    have w3 := Same.new (o := .tup xs.reverse) (Same.refl H2) hr0
    have hR3 : Rows K (upd H2 r (.tup xs.reverse)) r ps.reverse := ⟨xs.reverse, SqT.of upd_same, Prs.imp (fun _ _ q => (q.same w2').same w3) hp.rev⟩
    refine ⟨rfl, rfl, mk_pool hR3 hv.rev (by rw [List.length_reverse]; exact hl) (few_rev hv) fun y4 H4 w4 hy4 => ⟨rfl, ?_⟩⟩
    have w4' := (w2'.trans w3).trans w4
    refine rd_eq Z OC (hP.same w4') hy4 ⟨_, rfl, _, rfl, iteNS rfl ?_⟩
    refine ⟨_, rfl, _, rfl, mk_pool (hR.same w4') hv hl rfl fun y5 H5 w5 hy5 => ⟨rfl, ?_⟩⟩
    have w5' := w4'.trans w5
    refine rd_eq Z OC (hP.same w5') hy5 ⟨_, rfl, _, rfl, iteNS rfl ?_⟩
    refine nx_seq ?_
    refine seq_rest (A := tIfS _ _ _) (fun σ' H' => σ' = [some (.ref x), some (.ref a), some (.ref c), none, none] ∧ Same H5 H') (fun σ' H6 ⟨e6, w6⟩ => ?_) (fun rest => ?_)
    · subst e6
      have w6' := w5'.trans w6
      refine ⟨22, rfl, by decide, by decide, fun D hD => lc_it walk_range (fun j H7 => Same H6 H7 ∧ H7 D = some (.lst ((freeR ps j).map V.int))) ⟨Same.new (Same.refl _) hD, upd_same⟩ (fun _ _ _ _ => trivial) (fun j y H0 H7 hj h yy => ?_) (fun H7 h => ?_)⟩
      · obtain ⟨rfl, rfl⟩ := yy
        obtain ⟨w7, hD7⟩ := h
        refine ⟨rfl, _, rfl, _, rfl, a, ps, _, rfl, hR.same (w6'.trans w7), by omega, fun H8 w8 => ⟨_, rfl, ?_⟩⟩
        refine ite2 (fun q => ?_) (fun q => ?_)
        · have q2 : ¬ hasR ps (0 + (j : Int)) = true := by simpa using q
          refine ⟨_, rfl, _, w8 _ _ hD7, ?_, fun q o e => ?_, ?_⟩
          · rw [List.length_map]
            have := freeR_len ps j
            omega
          · rw [upd_ne (ne_of_none e hD)]
            exact w8 _ _ (w7 _ _ e)
          · rw [upd_same, freeR_succ, if_neg q2, List.map_append]
            rfl
        · have q2 : hasR ps (0 + (j : Int)) = true := by simpa using q
          refine ⟨w7.trans w8, ?_⟩
          rw [w8 _ _ hD7, freeR_succ, if_pos q2, List.append_nil]
      · obtain ⟨w7, hD7⟩ := h
        have hD7 : H7 D = some (.lst ((freeR ps 22).map V.int)) := hD7
        have w7' := w6'.trans w7
        refine nm_seq ?_
        refine seq_rest (A := tIfS _ _ _) (fun σ' H' => σ' = [some (.ref x), some (.ref a), some (.ref c), some (.ref D), none] ∧ Same H7 H') (fun σ' H8 ⟨e8, w8⟩ => ?_) (fun rest => ?_)
        · subst e8
          have w8' := w7'.trans w8
          have hP8 := hP.same w8'
          obtain ⟨dx8, cx8, hX8, hRx8⟩ := id hP8
          have sb := sizeR_bounds hvo
          have hc8 := hc1.same ((((w2.trans w3).trans w4).trans w5).trans ((w6.trans w7).trans w8))
          obtain ⟨zs, hz8, _⟩ := hc8
          refine ⟨_, rfl, _, rfl, rd_eqO OC hP8 (t := "tuple") (by decide) (SqT.ty hz8) ⟨_, rfl, _, rfl, _, rfl, iteT ?_⟩⟩
          refine ⟨_, rfl, _, rfl, x, dx8, _, rfl, hX8, x, _, rfl, hP8, by omega, hvo, _, rfl, ?_⟩
          refine rd_eqO OC hP8 (t := "str") (by decide) (Dp.ty (.str _)) ⟨_, rfl, _, rfl, _, rfl, iteT ?_⟩
          refine ⟨_, rfl, rd_eqO OC hP8 (t := "NoneType") (by decide) (Dp.ty .non) ⟨_, rfl, _, rfl, _, rfl, iteT ?_⟩⟩
          refine ⟨_, rfl, _, rfl, x, dx8, _, rfl, hX8, x, _, rfl, hP8, by omega, hvo, fun H9 w9 => ⟨_, rfl, ⟨sb.1, by omega⟩, ?_⟩⟩
          exact rd_eqO OC (hP8.same w9) (t := "int") (by decide) (Dp.ty (.int _)) ⟨_, rfl, k _ (w8'.trans w9)⟩
        · refine ⟨_, rfl, a, xs, rfl, .inr (Same.sqT w7' hs), _, _, rfl, rfl, _, rfl, ite2 (fun q => ?_) (fun q => rest _ _ ⟨rfl, Same.refl _⟩)⟩
          have q20 : xs.length < 20 := by
            have := of_decide_eq_true q
            omega
          have lx := hp.len
          refine ⟨_, rfl, Nat.zero_le _, fun p4 hp4 => ?_⟩
          have w8 : Same H7 (upd H7 p4 (.lst [])) := Same.new (Same.refl _) hp4
          refine ⟨_, _, .lst (SqL.of (w8 _ _ hD7)) (dp_ints _), .lst (SqL.of upd_same) .nil, shaped_ints _, by decide, _, rfl, ?_⟩
          cases e : freeR ps 22 with
          | nil => exact iteF (iteF (rest _ _ ⟨rfl, w8⟩))
          | cons f tl =>
            obtain ⟨f0, f1, f2⟩ := freeR_mem (f := f) (n := 22) (ps := ps) (by rw [e]; exact List.mem_cons_self)
            rw [e] at hD7
            have at0 : atI ((f :: tl).map V.int) 0 = some (.int f) := atI_head _ _
            refine iteT ⟨_, rfl, _, rfl, D, _, _, _, rfl, rfl, SqL.of (w8 _ _ hD7), at0, _, rfl, D, _, _, _, rfl, rfl, SqL.of (w8 _ _ hD7), at0, (show 2 ≤ sizeLine by decide), fun t ht => ⟨(show 1 ≤ sizeLine by decide), fun t2 ht2 => ?_⟩⟩
            have w9 := Same.new (o := .tup [.int f, .int f]) (Same.refl _) ht
            have w10 := Same.new (o := .tup [.ref t]) (Same.refl _) ht2
            have w11 := (w7'.trans w8).trans (w9.trans w10)
            have hr2 : Rows K _ t2 [(f, f)] := ⟨[.ref t], SqT.of upd_same, .cons ⟨t, rfl, w10 _ _ upd_same⟩ .nil⟩
            refine rd_cat (hR.same w11) hr2 (by show ps.length + 1 ≤ 1000000; omega) fun r H12 w12 hr12 => ?_
            have fv : Valid (ps ++ [(f, f)]) := hv.app (p := (f, f)) ⟨f0, Int.le_refl _, by show f ≤ 999999; omega⟩
            refine mk_pool hr12 fv (by rw [List.length_append]; show ps.length + 1 ≤ 20; omega) rfl fun y13 H13 w13 hy13 => ⟨rfl, ?_⟩
            have w13' := (w11.trans w12).trans w13
            refine ⟨_, rfl, rd_eq Z OC hy13 (hP.same w13') ⟨_, rfl, _, rfl, ite2 (fun z => absurd (of_decide_eq_true z) (few_more hv f0 (by omega) f2)) (fun _ => rest _ _ ⟨rfl, ?_⟩)⟩⟩
            exact ((w8.trans (w9.trans w10)).trans w12).trans w13
    · refine ⟨_, rfl, a, xs, rfl, .inr (Same.sqT w5' hs), _, _, rfl, rfl, _, rfl, ite2 (fun q => ?_) (fun q => rest _ _ ⟨rfl, Same.refl _⟩)⟩
      have q20 : xs.length < 20 := by
        have := of_decide_eq_true q
        omega
      refine ⟨_, rfl, _, rfl, 1, rfl, rd_take1 (hR.same w5') fun r H6 w6 hr6 => ?_⟩
      have l1 : (ps.take 1).length ≤ 1 := by rw [List.length_take]; omega
      have lx := hp.len
      have tk : ∀ p ∈ ps.take 1, p ∈ ps := fun p h => List.mem_of_mem_take h
      have w6' := w5'.trans w6
      refine rd_cat (hR.same w6') hr6 (by omega) fun r7 H7 w7 hr7 => ?_
      have w7' := w6'.trans w7
      refine mk_pool hr7 (hv.cat fun p h => hv p (tk p h)) (by rw [List.length_append]; omega) (few_sub hv tk) fun y8 H8 w8 hy8 => ⟨rfl, ?_⟩
      have w8' := w7'.trans w8
      refine ⟨_, rfl, rd_eq Z OC hy8 (hP.same w8') ⟨_, rfl, _, rfl, iteNS rfl ?_⟩⟩
      exact rest _ _ ⟨rfl, (w6.trans w7).trans w8⟩
end

/-! ### the law, and how often it goes round -/
def spLaw (K : PySem.W.Frag) : Sp := fun vs H Q _ => ∃ (a : Addr) (ns : List Int), vs = [.ref a] ∧ SqL K H a (ns.map V.int) ∧ ns.length ≤ 63 ∧ ∀ H', Q (.bl true) H'
theorem top4 (n k : Nat) (hk : 1 ≤ k) : ∃ j : Int, j = (if (if (n : Int) < k then (n : Int) else k) > 1 then (if (n : Int) < k then (n : Int) else k) else 1) ∧ 0 ≤ j ∧ j ≤ k := by
  refine ⟨_, rfl, ?_, ?_⟩
  · split <;> (try split) <;> omega
  · split <;> (try split) <;> omega

section
variable {P : Program} {w : World} {K : PySem.W.Frag} {mg : Str → Option Value} {base : Heap}
theorem ok_law (Z : Zc K mg) {fd : FuncData} (F : FunD K "law" "law" (defArgs s_law) (defBody s_law) (defScope s_law) [] [] (He.ga K "law") fd) : FnG P w K mg base CX0 9 (He.ga K "law") fd ["_law_script"] (spLaw K) := by
  obtain ⟨ex1, ex2⟩ := He.ba Z.says.ex
  have hd0 : ∀ H : Hp, SqT K H (He.dflAt ("Pool", some "__init__") 0 K) [] := fun H => tupA_ok ex1 H
  have OC : OwnC K (He.ga K "Pool") ownTs := ownB_ok ex2
  have D_l_bag : Dn P w K mg base CX0 "_law_bag" 1 ["_law_script", "_law_at"] (spBag K) := D_bag Z
  have D_l_stretches : Dn P w K mg base CX0 "_law_stretches" 2 ["_law_bag_here", "_law_most"] (spStr K) := D_stretches Z
  have D_l_fewest : Dn P w K mg base CX0 "_law_fewest" 2 ["_law_rows"] (spFewL K) := D_lfewest Z
  have D_l_right : Dn P w K mg base CX0 "_law_right" 4 ["_law_rows", "_law_pool"] (spRight K) := D_right Z
  have D_l_alike : DnG P w K mg base CX0 "_law_alike" 8 ["_law_pool", "_law_rows"] (spAlike K) := D_alike Z OC
  obtain ⟨fdI, G_Pool, b_Pool_1, dsI, v_Pool_0, b_Pool_0⟩ := pool_init (P := P) (w := w) (base := base) Z
  have v_Pool_1 : Vals [] [] := .nil
  obtain ⟨fdE, G___eq__, b___eq___1⟩ := pool_eq (P := P) (w := w) (base := base) Z OC
  refine fnG F sc_law (fun vs H Q E h => ?_) (fun cdv A outer s H vs Q E hG hr h => ?_)
  · obtain ⟨_, _, rfl, _⟩ := h
    rfl
  · obtain ⟨a, ns, rfl, hs, hl, k⟩ := h
    refine ⟨_, PSs.nox (pss_cons (ps_for PassesOwn.never rfl (pi_range1 (by rfl) (Z.free "range") (pa_cons (pe_callB (call_max2 rfl) (by rfl) (Z.free "max") (by decide +kernel) (pa_cons pe_int (pa_cons (pe_callB (call_min2 rfl) (by rfl) (Z.free "min") (by decide +kernel) (pa_cons pe_int (pa_cons (pe_callB call_len_seq (by rfl) (Z.free "len") (by decide +kernel) (pa_cons (pv 0) pa_nil)) pa_nil))) pa_nil))) pa_nil)) (pg_name (i := 1) sc_law.nd rfl (Or.inl rfl))
      (pss_cons (ps_set (i := 2) sc_law.nd rfl (Or.inl rfl) (pe_d D_l_bag (hr.mono (by decide)) (by rfl) pass0 (pa_cons (pv 0) (pa_cons (pv 1) pa_nil))))
      (pss_cons (ps_set (i := 3) sc_law.nd rfl (Or.inl rfl) (pe_d D_l_stretches (hr.mono (by decide)) (by rfl) pass0 (pa_cons (pv 2) (pa_cons pe_int pa_nil))))
      (pss_cons (ps_set (i := 4) sc_law.nd rfl (Or.inl rfl) (pe_make (Z.mkr "Pool") G_Pool (hr.mono (by decide)) (by rfl) (Z.glo "Pool") b_Pool_1 v_Pool_1 pass0 (pa_cons (pv 3) pa_nil)))
      (pss_cons (ps_for PassesOwn.never rfl (pi_range1 (by rfl) (Z.free "range") (pa_cons pe_int pa_nil)) (pg_name (i := 5) sc_law.nd rfl (Or.inl rfl))
      (pss_one (ps_if (PW.pt (pw_or (pt_not (pt_val (pe_d D_l_right (hr.mono (by decide)) (by rfl) pass0 (pa_cons (pv 3) (pa_cons (pv 4) pa_nil))))) (pw_or1 (pt_not (pt_val (pe_dG D_l_alike hG (hr.mono (by decide)) (by rfl) pass0 (pa_cons (pv 4) (pa_cons (pv 3) pa_nil)))))))) (pss_one (ps_ret pe_bl)) pss_nil)))
      (pss_cons (ps_set (i := 6) sc_law.nd rfl (Or.inl rfl) (pe_d D_l_stretches (hr.mono (by decide)) (by rfl) pass0 (pa_cons (pv 2) (pa_cons pe_int pa_nil))))
      (pss_cons (ps_set (i := 7) sc_law.nd rfl (Or.inl rfl) (pe_make (Z.mkr "Pool") G_Pool (hr.mono (by decide)) (by rfl) (Z.glo "Pool") b_Pool_1 v_Pool_1 pass0 (pa_cons (pv 6) pa_nil)))
      (pss_cons (ps_if (PW.pt (pw_or (pt_cmpR op_ne (pe_cmpR (op_eqOwn G___eq__ (Z.meth "Pool" "__eq__") b___eq___1 pass0 (hr.mono (by decide))) (pv 7) (pv 4) (nomark _)) (pe_cmpR (op_eqD hr.units) (pe_d D_l_fewest (hr.mono (by decide)) (by rfl) pass0 (pa_cons (pv 6) pa_nil)) (pe_d D_l_fewest (hr.mono (by decide)) (by rfl) pass0 (pa_cons (pv 3) pa_nil)) (nomark _)) (nomark _)) (pw_or1 (pt_not (pt_val (pe_d D_l_right (hr.mono (by decide)) (by rfl) pass0 (pa_cons (pv 3) (pa_cons (pv 4) pa_nil)))))))) (pss_one (ps_ret pe_bl)) pss_nil)
      (pss_one (ps_if (PW.pt (pw_or (pt_not (pt_val (pe_d D_l_right (hr.mono (by decide)) (by rfl) pass0 (pa_cons (pv 6) (pa_cons (pv 7) pa_nil))))) (pw_or (pt_not (pt_val (pe_d D_l_right (hr.mono (by decide)) (by rfl) pass0 (pa_cons (pe_tup pa_nil) (pa_cons (pe_make0 (Z.mkr "Pool") G_Pool (hr.mono (by decide)) (by rfl) (Z.glo "Pool") b_Pool_0 v_Pool_0 pass0) pa_nil))))) (pw_or1 (pt_not (pt_cmpR (op_eqOwn G___eq__ (Z.meth "Pool" "__eq__") b___eq___1 pass0 (hr.mono (by decide))) (pe_make (Z.mkr "Pool") G_Pool (hr.mono (by decide)) (by rfl) (Z.glo "Pool") b_Pool_1 v_Pool_1 pass0 (pa_cons (pe_tup pa_nil) pa_nil)) (pe_make0 (Z.mkr "Pool") G_Pool (hr.mono (by decide)) (by rfl) (Z.glo "Pool") b_Pool_0 v_Pool_0 pass0) (nomark _))))))) (pss_one (ps_ret pe_bl)) pss_nil))))))))))
      (pss_one (ps_ret pe_bl))), ?_⟩
    obtain ⟨j, ej, j0, j4⟩ := top4 (ns.map V.int).length 4 (by decide)
    refine ⟨_, rfl, a, _, rfl, .inl hs, _, _, rfl, _, _, rfl, ?_⟩
    rw [show (if (if (((ns.map V.int).length : Nat) : Int) < 4 then (((ns.map V.int).length : Nat) : Int) else 4) > 1 then (if (((ns.map V.int).length : Nat) : Int) < 4 then (((ns.map V.int).length : Nat) : Int) else 4) else 1) = j from ej.symm]
    refine ⟨j, rfl, by omega, by omega, for_it walk_range (fun i σ H' => Same H H' ∧ ∃ v1 v2 v3 v4 v5 v6 v7 : Option V, σ = [some (.ref a), v1, v2, v3, v4, v5, v6, v7])
      ⟨Same.refl H, none, none, none, none, none, none, none, rfl⟩ (fun _ _ _ _ _ => trivial) (fun i y σ H0' H' hi h yy => ?_) (fun σ H' h => ?_)⟩
    · obtain ⟨rfl, rfl⟩ := yy
      obtain ⟨s0, v1, v2, v3, v4, v5, v6, v7, rfl⟩ := h
      refine ⟨_, rfl, _, rfl, a, ns, i, (by show [V.ref a, V.int (0 + (i : Int))] = [V.ref a, V.int (i : Int)]; rw [Int.zero_add]), s0.seq hs, by omega, fun b H1 hb0 w1 g1 => ?_⟩
      refine ⟨_, rfl, b, 0, 20, rfl, g1, by decide, by decide, by decide, fun c ps H2 b2 g2 hR2 hv hl20 => ?_⟩
      refine ⟨_, rfl, mk_pool hR2 hv (by omega) rfl fun x H3 w3 hP3 => ⟨rfl, ?_⟩⟩
      have g3 := g2.same w3
      have hR3 := hR2.same w3
      have s3 : Same H' H3 := fun p o e => w3 p o (b2 p o (ne_of_none e hb0) (w1 p o e))
      refine ⟨2, rfl, by decide, by decide, for_it walk_range (fun i' σ H4 => Same H3 H4 ∧ ∃ u5 u6 u7 : Option V, σ = [some (.ref a), some (.int (0 + (i : Int))), some (.ref b), some (.ref c), some (.ref x), u5, u6, u7])
        ⟨Same.refl _, _, _, _, rfl⟩ (fun _ _ _ _ _ => trivial) (fun i' y' σ H0'' H4 hi' h yy => ?_) (fun σ H4 h => ?_)⟩
      · obtain ⟨rfl, rfl⟩ := yy
        obtain ⟨w4, u5, u6, u7, rfl⟩ := h
        refine ⟨_, rfl, _, rfl, c, x, ps, rfl, hR3.same w4, hv, by omega, hP3.same w4, fun H5 w5 => ⟨true, rfl, iteF ?_⟩⟩
        refine ⟨_, rfl, _, rfl, x, c, ps, rfl, hR3.same (w4.trans w5), hv, by omega, hP3.same (w4.trans w5), fun H6 w6 => ⟨true, rfl, iteF ?_⟩⟩
        exact ⟨(w4.trans w5).trans w6, _, _, _, rfl⟩
      · obtain ⟨w4, u5, u6, u7, rfl⟩ := h
        have g4 := g3.same w4
        obtain ⟨l4, hl4⟩ := g4.lst
        have hR4 := hR3.same w4
        have hP4 := hP3.same w4
        refine ⟨_, rfl, b, _, 20, rfl, g4, by decide, by decide, by decide, fun d qs H5 b5 g5 hR5 hvq hlq => ?_⟩
        have hRp5 := hR4.but hl4 b5
        have hPp5 := hP4.but hl4 b5
        have s5 : Same H' H5 := fun p o e => b5 p o (ne_of_none e hb0) (w4 p o (s3 p o e))
        refine ⟨_, rfl, mk_pool hR5 hvq (by omega) rfl fun x2 H6 w6 hP6 => ⟨rfl, ?_⟩⟩
        refine ⟨_, rfl, _, rfl, rd_eq Z OC hP6 (hPp5.same w6) ⟨_, rfl, ?_⟩⟩
        refine ⟨_, rfl, d, qs, rfl, hR5.same w6, by omega, fun e1 H7 w7 hR7 => ?_⟩
        refine ⟨_, rfl, c, ps, rfl, hRp5.same (w6.trans w7), by omega, fun e2 H8 w8 hR8 => ?_⟩
        refine ⟨dT (fewR qs), dT (fewR ps), (hR7.same w8).dp, hR8.dp, (shaped_pairs _).2, (shaped_pairs _).2, ?_⟩
        rw [eqv_dT]
        refine ⟨rfl, _, rfl, iteNS rfl ?_⟩
        have w8' := (w6.trans w7).trans w8
        refine ⟨_, rfl, _, rfl, c, x, ps, rfl, hRp5.same w8', hv, by omega, hPp5.same w8', fun H9 w9 => ⟨true, rfl, iteF ?_⟩⟩
        have w9' := (w7.trans w8).trans w9
        refine ⟨_, rfl, _, rfl, d, x2, qs, rfl, (hR5.same w6).same w9', hvq, by omega, hP6.same w9', fun H10 w10 => ⟨true, rfl, iteF ?_⟩⟩
        refine ⟨Nat.zero_le _, fun t0 ht0 => ?_⟩
        have w11 : Same H10 (upd H10 t0 (.tup [])) := Same.new (Same.refl _) ht0
        have nv : Valid [] := fun p hp => absurd hp List.not_mem_nil
        refine mk_pool (qs := []) ⟨[], hd0 _, .nil⟩ nv (by decide) rfl fun x3 H11 w12 hP11 => ⟨rfl, ?_⟩
        refine ⟨t0, x3, [], rfl, ⟨[], SqT.of (w12 _ _ upd_same), .nil⟩, nv, by decide, hP11, fun H12 w13 => ⟨true, rfl, iteF ?_⟩⟩
        refine ⟨Nat.zero_le _, fun t1 ht1 => ?_⟩
        have w14 : Same H12 (upd H12 t1 (.tup [])) := Same.new (Same.refl _) ht1
        refine mk_pool (qs := []) ⟨[], SqT.of upd_same, .nil⟩ nv (by decide) rfl fun x4 H13 w15 hP13 => ⟨rfl, ?_⟩
        refine mk_pool (qs := []) ⟨[], hd0 _, .nil⟩ nv (by decide) rfl fun x5 H14 w16 hP14 => ⟨rfl, ?_⟩
        refine rd_eq Z OC (hP13.same w16) hP14 ⟨_, rfl, _, rfl, iteNS rfl ?_⟩
        exact ⟨(s0.trans s5).trans ((w8'.trans w9).trans ((w10.trans w11).trans (((w12.trans w13).trans w14).trans (w15.trans w16)))), _, _, _, _, _, _, _, rfl⟩
    · obtain ⟨s0, v1, v2, v3, v4, v5, v6, v7, rfl⟩ := h
      exact k _
end

end My
namespace My
open PySem PySem.Spec PyProof.Rows L2
abbrev R : PySem.W.OpenRow := PySem.W.OpenLaw.row PySem.Challenge.rw_leasepair_k01_pools_made
abbrev hk : PySem.W.Hook := hookM 5 fa fn ex
def ob (s : PySem.W.SharedT) : Ob := obM 5 fa fn ex (HandSHeadRun.getT s)
theorem ob_eq (s : PySem.W.SharedT) : ob s = hk.obs s.abs := obM_eq (HandSHeadRun.getT_eq s)
def loose : List Str := ["_wall", "TOP_NUMBER", "is_whole", "is_whole_within", "is_number", "NoPool", "MOST_STRETCHES", "Pool", "refuse_wrong_stretches", "is_stretch", "fewest", "stretch_text", "_law_bag", "_law_take", "_law_has", "_law_fewest", "_law_stretches", "_law_same", "_law_whole", "_law_right", "_law_alike"]
set_option maxHeartbeats 0 in
theorem run (w : World) : HandSHeadRun.RunEq R (PySem.W.view R.prog [25]) hk ob 4000 loose w := by
  intro os
  kernel_rfl
theorem facts {P : Program} {w : World} {K : PySem.W.Frag} {h : Heap} {mg : Str → Option Value} {f : Addr} (X : K.In h) (G : h.Ns mainGlobals mg) (hfa : mg ("law" : Str) = some (.ref f)) (c : Says fa fn ex K) :
    ∃ fd : FuncData, (∀ (s : Shared) (v : Value), BindsTo s fd ⟨[v], []⟩ [("_law_script", v)]) ∧ ∀ base : Heap, K.In base → base.Ns mainGlobals mg → FnG P w K mg base CX0 9 f fd ["_law_script"] (spLaw K) := by
  have Z : Zc K mg := ⟨c, h, X, G⟩
  cases hfa.symm.trans (Z.glo "law")
  obtain ⟨fd, F⟩ := F_law Z
  have b := FunD.bindsA (ps := ["_law_script"]) F fun _ _ _ _ _ _ us hl => match us, hl with | [_], _ => rfl
  exact ⟨fd, fun s v => b s [v] rfl, fun base _ _ => ok_law Z F⟩
end My
open PySem PySem.W PySem.Calls PyProof.Rows
set_option maxRecDepth 100000 in
set_option maxHeartbeats 0 in
theorem PySem.Challenge.cw_leasepair_k01_pools_made_holds : PySem.Challenge.rw_leasepair_k01_pools_made.Holds := by
  w_on; o_law
  refine HandSHeadRun.head_any (r := My.R) (q := view My.R.prog [25]) (H := My.hk) (ob := My.ob) (M := 4000) (loose := My.loose) (d := HandSHeadRun.topDef My.R.prog 25) (kwd := []) My.ob_eq (by kernel_rfl) (fun s => by kernel_rfl) My.run (by kernel_rfl) (by kernel_rfl) (by kernel_rfl) (by rfl) (by first | assumption | decide +kernel) (by decide +kernel) ⟨rfl, rfl, rfl, rfl, rfl, by decide +kernel⟩ ?hw ?hc
  case hw => w_witness2
  case hc =>
    refine My.walk_G (l := PySem.Challenge.rw_leasepair_k01_pools_made) (n := 63) (k := 9) (x := "_law_script") (CX := L2.CX0) rfl (by decide) (by kernel_rfl) ⟨rfl, by decide, by decide⟩ ?F (fun _ _ _ _ z => z)
    intro w mg fa h Y G hmg0
    obtain ⟨K, KX, c⟩ := Y
    have hmg : mg ("law" : PySem.Str) = some (.ref fa) := by
      have e : (HandSHeadRun.topDef My.R.prog 25).name = ("law" : PySem.Str) := by kernel_rfl
      rw [← e]
      exact hmg0
    obtain ⟨fd, hb, hF⟩ := My.facts (P := (PySem.Challenge.rw_leasepair_k01_pools_made).prog) (w := w) KX G hmg c
    exact ⟨K, fd, My.spLaw K, KX, hb, fun H a ns hl _ hS => ⟨a, ns, rfl, hS, hl, fun _ => rfl⟩, hF⟩

"""Leasepair: numbers lent for a time by two keepers that stand in for one another."""

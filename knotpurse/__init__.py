"""Knotpurse: a year's money by heads, entered late and told by date."""

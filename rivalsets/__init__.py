"""Families of sets and the families that meet them, with papers that show what is least and most."""

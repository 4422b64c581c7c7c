"""Dyedpours: dyed grain poured from vessel to vessel, told exactly for all mixings."""

"""Sugartrue: hygienic macros, a step machine, and runs shown in the source's own words."""

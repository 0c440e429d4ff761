"""Downwords: languages that are closed under deleting letters."""

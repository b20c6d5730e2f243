"""Wishkeep: machines made from wishes of time."""

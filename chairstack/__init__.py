"""Chairstack: which chairs surely stack on which, from a few trials."""

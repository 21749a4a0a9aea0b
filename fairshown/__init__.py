"""Fairshown: what the receipts of a few members show of an exchange that may not keep its rule."""

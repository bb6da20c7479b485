"""Turnbehind: walkers who turn each way that they walk, and all that can come of it."""

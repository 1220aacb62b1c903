"""Roomrings: moves in a tree of limits, and the rings that bar them."""

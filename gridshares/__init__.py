"""Gridshares: shares of a grid, told, counted and numbered."""

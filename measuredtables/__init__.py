"""Matrices of exact fractions whose rows and columns carry measures."""

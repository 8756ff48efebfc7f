"""Fanglue: fans of fractions glued along their edges, and the turnings that they tell."""

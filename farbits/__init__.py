"""Whole numbers whose bits lie at places that are such numbers."""

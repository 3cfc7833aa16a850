"""Boxsums: sums, leasts and greatests over boxes of cells."""

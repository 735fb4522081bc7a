"""Fewbends: maps drawn by level and upright lines with the fewest turns."""

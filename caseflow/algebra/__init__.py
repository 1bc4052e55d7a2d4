"""Weightings and counts, siphons and traps."""

"""Runs that differ only in the order of independent steps, and their numbers."""

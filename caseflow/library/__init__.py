"""Workflows whose steps stand for cases of other workflows."""

"""Occurring markings, and how cases come to new editions of a workflow."""

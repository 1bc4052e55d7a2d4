"""Nets and workflows, their clusters and their runs."""

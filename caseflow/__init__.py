"""Caseflow: workflows whose choices are free."""

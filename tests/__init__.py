"""The tests of caseflow."""

"""Terms that describe workflows, and parts of workflows."""

"""Whether every case of a workflow can be finished."""

"""Values written as texts, and a shell for an office."""

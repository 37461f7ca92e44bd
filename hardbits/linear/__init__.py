"""Linear truths."""

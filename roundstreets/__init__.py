"""Towns that wrap round, with two streets from each crossing."""

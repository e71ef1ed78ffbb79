"""Questions about the program's own runs."""

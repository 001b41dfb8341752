"""One thread through all cells of a square, at every depth."""

"""Names, and the row that's said: see saidrow.pages.answers."""

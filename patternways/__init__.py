"""Rules of patterns, and of what is put for them, as functions from texts to texts."""

"""The medicine chest and the watches of a small party."""

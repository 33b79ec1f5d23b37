"""Seenrows: watchers of endless sequences, and what each of them can work out."""

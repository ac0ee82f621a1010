"""Stemsteps: rules that bring words to their stems, and what they do to all words."""

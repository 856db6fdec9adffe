"""Wordsapart: the most words that are far enough apart, from both sides."""

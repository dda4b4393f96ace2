"""Twighall: trees on a ground, counted, exchanged, the lightest, and their words."""

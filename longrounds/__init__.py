"""Longrounds: programs of great repeats, told without doing them."""

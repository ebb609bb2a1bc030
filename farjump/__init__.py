"""Farjump: parts of code put together and laid down."""

"""Pieces of functions, and kept programs."""

"""Functions and programs."""

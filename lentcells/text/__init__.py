"""Texts of claims, rows, functions and situations, and a shell."""

"""Contracts, and greatest choices of claims."""

"""Loans: what can be so of them ahead of each row, and the faults of rows."""

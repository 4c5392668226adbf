"""Differences, questions and the trees that show that questions follow."""

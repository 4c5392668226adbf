"""Situations: what claims mean in them."""

"""Claims: their form, and terms put in the place of their names."""

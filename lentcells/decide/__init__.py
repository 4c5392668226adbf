"""Whether questions follow, and what shows it."""

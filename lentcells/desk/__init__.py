"""A desk with functions, and claims about them that hold."""

"""Somesay: sayings of all, some and so many, and what follows from them."""

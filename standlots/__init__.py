"""Standlots: lots of things that can stand together, nobody knows which."""

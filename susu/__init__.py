"""Susu: savings circles that nobody can empty."""

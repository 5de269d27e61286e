"""Wardwork: a small operating system in plain Python values."""

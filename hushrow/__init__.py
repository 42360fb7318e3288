"""Hushrow: what the rows of a program tell to whom."""

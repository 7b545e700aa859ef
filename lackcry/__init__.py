"""Lackcry: one cry for all that each lacks alone."""

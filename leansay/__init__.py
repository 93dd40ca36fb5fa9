"""Leansay: sayings that are true by parts."""

"""Partrests: numbers parted into parts, and what is left of their counts."""

"""Exact rain on a profile of columns."""

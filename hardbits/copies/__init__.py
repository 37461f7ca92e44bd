"""Copies of truths, and the way from bits back to a truth."""

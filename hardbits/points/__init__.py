"""Truths, tests and families on points."""

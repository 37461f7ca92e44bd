"""Cores of truths, and mixes of tests that bar them."""

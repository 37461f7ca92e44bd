"""Longer words, made from maps of seeds."""

"""Hardbits: truths that tests cannot follow, and bits made from them."""

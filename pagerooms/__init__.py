"""Pagerooms: pages that come when they are asked for, and rooms enough for those that work."""

"""Slackcache: caches below caches whose copies are at most so many writes old."""

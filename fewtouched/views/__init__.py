"""Closures, views, and which of them are quiet."""

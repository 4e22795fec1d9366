"""Pieces, and the books that rest on them."""

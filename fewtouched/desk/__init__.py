"""A desk of bases, and the edits that are made at it."""

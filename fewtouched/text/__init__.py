"""Texts of values, and a shell that is led by texts."""

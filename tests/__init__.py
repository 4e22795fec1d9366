"""Tests of fewtouched."""

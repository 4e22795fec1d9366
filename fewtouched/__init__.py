"""Fewtouched: counts of joins that are kept up by a few stored entries, exactly when."""

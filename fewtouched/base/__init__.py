"""Names, scenes, and what is built on them."""

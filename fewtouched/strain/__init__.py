"""What strains two roles, and what can change together."""

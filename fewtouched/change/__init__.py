"""Steps that change a scene or its doors, and what they do to strains."""

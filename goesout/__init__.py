"""Goesout: rules by which small caches let things go."""

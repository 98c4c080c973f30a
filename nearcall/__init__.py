"""Nearcall: halls of walls, and crowds called about in them."""

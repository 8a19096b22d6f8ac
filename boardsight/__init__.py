"""Boardsight: flat boards in space, and which hides which."""

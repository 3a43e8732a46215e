"""Shapethin: pictures of cells on a floor without end."""

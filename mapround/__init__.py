"""Mapround: maps told by the turns of their roads."""

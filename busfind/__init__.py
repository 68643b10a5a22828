"""Busfind: things on one wire found by the bits of their numbers."""

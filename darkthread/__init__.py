"""Darkthread: watched rounds in a house, and whoever keeps to the dark."""

"""Aheadmill: a mill that works ahead."""

"""Laidink: rows of printing passes over masks that nobody tells."""

"""Overlapcode: one byte row, several programs."""

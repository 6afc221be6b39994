"""Saw teeth, their sums, and what shows that these are right."""

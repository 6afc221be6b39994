"""Benches, which hold named pairs and what is promised of their sums."""

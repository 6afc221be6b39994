"""Texts of values, and commands that are texts."""

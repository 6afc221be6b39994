"""Turns, which are tables of four integers, and their words."""

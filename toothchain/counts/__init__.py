"""Exact counts that depend on sums of teeth."""

"""Saw-tooth sums and chains of exchanges, computed exactly."""

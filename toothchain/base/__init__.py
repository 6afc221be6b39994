"""Exact fractions and Euclid's ladders, on which everything else stands."""

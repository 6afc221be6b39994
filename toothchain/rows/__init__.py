"""Rows that mix the integers below a modulus."""

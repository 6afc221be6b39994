"""The tests of toothchain."""

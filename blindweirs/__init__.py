"""Blindweirs: a river led for all rains, known and unknown."""

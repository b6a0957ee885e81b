"""Lostlines: programs whose lines may not happen."""

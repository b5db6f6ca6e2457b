"""Motions of a debating tournament."""

"""Atonce: orders given at once on a map of places."""

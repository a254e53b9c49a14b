"""Lazytags: rows in trees, deeds on ranges, and the least that must be kept."""

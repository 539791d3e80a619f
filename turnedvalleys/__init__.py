"""Turnedvalleys: rows whose valleys are turned about."""

"""The tests of turnedvalleys."""

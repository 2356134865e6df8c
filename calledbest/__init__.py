"""Stores whose calls take the best thing that they accept."""

"""Arrival slots when an airport takes fewer flights than planned."""

"""Wirestack: a network over links that lose, double, bend and overtake what they carry."""

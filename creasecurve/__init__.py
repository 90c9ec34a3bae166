"""Creasecurve: roofs of planes, and their creases seen from above."""

"""Seeall: fewest pieces on a board that see all cells."""

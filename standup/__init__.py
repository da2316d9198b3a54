"""Standup: maps on a sheet drawn straight and stood up as solids."""

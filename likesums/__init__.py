"""Likesums: boards of numbers whose lines all have one sum."""

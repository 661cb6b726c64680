"""Halvesmeet: one store kept by many houses, by consensus."""

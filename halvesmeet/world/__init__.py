"""Clients, whole worlds, and how a world comes to rest."""

"""Plymap: exact areas laid over one another."""

"""Evenlots: rows sorted by several hands, by samples."""

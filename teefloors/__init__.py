"""Floors laid with pieces like a T, by rises and rounds."""

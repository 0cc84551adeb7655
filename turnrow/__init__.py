"""Turnrow: rows that are turned, and words of groves."""

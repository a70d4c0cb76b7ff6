"""Bridgefind: one search through many rows."""

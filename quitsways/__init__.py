"""Quitsways: how many payments until all are quits."""

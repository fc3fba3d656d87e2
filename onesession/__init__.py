"""Onesession: a running app in which everything that comes late may have become old."""

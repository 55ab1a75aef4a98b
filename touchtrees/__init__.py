"""Touchtrees: search trees in which a touched key is rotated to the root."""

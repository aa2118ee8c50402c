"""Anymethod: the least error with which any method can tell a combination of unknown effects."""

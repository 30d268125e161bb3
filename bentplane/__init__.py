"""Bentplane: polynomial steps of a plane, and all rows that a few of them make."""

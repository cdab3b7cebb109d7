"""Roundcopies: copies laid by steps on a sheet of boxes."""

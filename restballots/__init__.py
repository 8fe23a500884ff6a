"""Restballots: seats while ballots are still uncounted."""

"""Nevermet: one answer, though the writers never met."""

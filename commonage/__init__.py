"""Commonage: one memory for programs on several machines."""

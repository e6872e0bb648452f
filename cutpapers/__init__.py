"""Cutpapers: what a written run of processes could have shown."""

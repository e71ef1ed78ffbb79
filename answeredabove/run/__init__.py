"""Situations, options and runs."""

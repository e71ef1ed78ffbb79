"""Texts of programs."""

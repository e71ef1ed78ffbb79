"""Procedures and programs compared with one another."""

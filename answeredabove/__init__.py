"""Answeredabove: signals that open calls answer while everything stays open."""

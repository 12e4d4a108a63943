"""Codes of bits."""

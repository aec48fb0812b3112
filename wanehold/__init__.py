"""Wanehold: stores that forget."""

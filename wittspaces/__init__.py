"""Spaces with a form over small fields, with papers."""

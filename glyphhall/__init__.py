"""Glyphhall: joined writing, shaped by rules."""

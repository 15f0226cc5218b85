"""Fonts, and where words can be parted."""

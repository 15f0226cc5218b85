"""Pagewright: text with macros made into lines and pages."""

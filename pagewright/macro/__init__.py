"""Macros, the scopes that hold their meanings, and how they are expanded."""

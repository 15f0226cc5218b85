"""The press, which makes pages of a text, and documents that are edited."""

"""Lines: how paragraphs are broken."""

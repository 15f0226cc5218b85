"""Pages: as their items come, and at their best."""

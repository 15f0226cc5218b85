"""Items, and the boxes that hold them."""

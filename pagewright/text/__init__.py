"""Signs, their sorts, and the tokens that are made of them."""

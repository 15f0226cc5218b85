"""What all other parts of the program count with."""

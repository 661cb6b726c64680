"""The plain store: deeds, and the states behind rows of them."""

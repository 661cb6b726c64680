"""What goes between houses and clients: letters, and the bag in which they lie."""

"""The texts of worlds and histories."""

"""Plain values, and the checks of arguments."""

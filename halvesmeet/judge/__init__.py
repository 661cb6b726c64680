"""What is told of worlds, histories and runs that were made by anyone."""

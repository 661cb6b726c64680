"""What a house keeps and does."""

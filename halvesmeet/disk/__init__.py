"""Disks, journals on them, and the two halves of a disk."""

"""Ownshelf: shelves of own make, rows of things that are never changed and share their nodes."""

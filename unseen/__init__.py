"""Unseen: two who put down a card at the same time."""

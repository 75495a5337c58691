"""Lastoflot: who is let in where not all can be in together."""

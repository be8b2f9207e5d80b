"""Beadshares: strings of beads shared by few cuts."""

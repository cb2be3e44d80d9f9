"""Lossway: two stations over a net that loses, doubles, reorders and delays."""

"""Foursfold: commands that merge by twos."""

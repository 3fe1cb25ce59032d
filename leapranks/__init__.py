"""Leapranks: places of a web ranked by walkers who go by ties and leap."""

"""Deedstand: a text editor in which every deed can be taken out alone."""

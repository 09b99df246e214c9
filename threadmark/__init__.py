"""Threadmark: signed words over the edges of a graph."""

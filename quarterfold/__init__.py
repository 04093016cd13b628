"""Quarterfold: shapes on a floor of cells, kept as quarters of quarters."""

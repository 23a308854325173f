"""Caskyears: cellars as tables of shares, pours that level, and what they come to over the years."""

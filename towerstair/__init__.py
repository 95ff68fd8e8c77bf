"""Towers set on stairs of cells, no two in a row or a column."""

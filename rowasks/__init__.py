"""Rowasks: asks over the rows of a log."""

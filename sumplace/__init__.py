"""Sumplace: the so-manieth sum of two sorted rows."""

"""Midpile: the share of a row that two piles keep."""

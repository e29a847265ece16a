"""Pursewise: gifts that level a row of purses."""

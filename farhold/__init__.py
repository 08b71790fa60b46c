"""Farhold: things in houses that hold one another by letters."""

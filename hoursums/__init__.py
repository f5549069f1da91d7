"""Hoursums: sets of hours added on a clock."""

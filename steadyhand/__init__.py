"""Steadyhand: things steered turn by turn, and whether they stay where they should."""

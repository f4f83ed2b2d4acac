"""Setitback: two forms that must fit, and what it costs to take a setting back."""

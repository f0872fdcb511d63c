"""Elderline: a language of houses with many elders."""

"""Heddle: weaving told as text."""

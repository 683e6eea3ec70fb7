"""Everychange: programs that step along a change nobody knows."""

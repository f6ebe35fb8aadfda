"""Keptends: ends of a pipe that children keep."""

"""Fixworlds: statements with fixed points, and the worlds in which they are true."""

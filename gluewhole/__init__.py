"""Gluewhole: what is told on the cells of a space, put together to wholes, or barred."""

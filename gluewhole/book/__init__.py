"""A book of cells and questions that can be changed and undone."""

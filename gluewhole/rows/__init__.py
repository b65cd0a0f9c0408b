"""Maps of bare rows and of tables, long rows of groups, and two halves of a space."""

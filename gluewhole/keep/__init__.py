"""What keeps all groups: pairings that are taken out, and finer spaces."""

"""Tables on spaces, and what is told on them."""

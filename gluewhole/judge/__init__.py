"""The checker of claims and papers, which adds and multiplies alone."""

"""Commands for a cursor in a tree, and what they do to all trees."""

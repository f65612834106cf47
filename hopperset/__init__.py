"""A multihead weigher: selection of hoppers for filling bags."""

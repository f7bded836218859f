"""Bagkinds: sentences behind guards, and all stores that keep them."""

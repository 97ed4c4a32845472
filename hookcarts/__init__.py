"""Heaps of carts, some of which may be turned about, coupled into trains."""

"""Lamplight: a lamp carried through a house without rings."""

"""Fairtrees: what may come and what must come in fair runs of a machine."""

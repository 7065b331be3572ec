"""Partkits: things built of parts from kits, what can be built of what lies there, and papers for it."""

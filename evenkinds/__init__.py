"""Evenkinds: programs over kinds of finitely many things."""

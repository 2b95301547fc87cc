"""Mayrest: which parts of a program may rest on which."""

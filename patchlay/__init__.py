"""Patchlay: changes of lines, sheets with lines around, and numbers that show them."""

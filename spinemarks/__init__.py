"""Spinemarks: marks on the backs of books, their classes, and the orders of two houses."""

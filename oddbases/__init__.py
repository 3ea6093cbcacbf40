"""Oddbases: whole numbers, and pairs of them, told in odd ways."""

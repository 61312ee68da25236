"""Ordercodes: words that sort as their keys do."""

"""Selfdrawn: pictures that are drawn again within themselves, without end."""

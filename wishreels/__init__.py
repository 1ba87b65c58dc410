"""Wishreels: routers that take the ways that they wish, in every order."""

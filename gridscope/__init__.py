"""Gridscope: a great sheet seen through a small screen."""

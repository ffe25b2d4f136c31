"""Evenkeeps: programs that keep a few of an endless row by draws."""

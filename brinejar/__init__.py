"""Brinejar: graphs of objects as streams of octets."""

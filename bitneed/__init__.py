"""Bitneed: how wide each word of a program can be."""

"""Slidehall: trolleys pushed straight in a crowded store room."""

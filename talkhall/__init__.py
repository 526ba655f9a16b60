"""Talkhall: a hall of rooms in which people talk."""

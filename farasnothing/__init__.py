"""Stations that run ahead as far as nothing can come."""

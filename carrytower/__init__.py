"""Carrytower: groups laid upon groups by carries."""

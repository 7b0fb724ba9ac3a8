"""Onlygiven: what can be made of what is given."""

"""Ridesonce: single rides between bike stations, in every order and in some order."""

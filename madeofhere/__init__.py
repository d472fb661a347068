"""Madeofhere: where a thing was made, decided for all prices within bounds."""

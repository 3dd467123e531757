"""Waycircuits: ways of shown names by trails; README.md tells how it is used."""

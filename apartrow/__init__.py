"""Apartrow: things of kinds put in a row or a ring so that alike ones stand apart."""

"""Trueroots: roots of whole polynomials, kept exactly."""

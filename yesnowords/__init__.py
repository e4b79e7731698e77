"""Yesnowords: words made of all values of yes-or-no polynomials."""

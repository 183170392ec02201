"""Facestead: what may stand in for what a program shows."""

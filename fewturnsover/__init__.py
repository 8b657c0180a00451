"""Fewturnsover: hands with calls of any depth, gone by a few turns."""

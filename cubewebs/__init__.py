"""Cubewebs: webs that lie in cubes of bits without stretch."""

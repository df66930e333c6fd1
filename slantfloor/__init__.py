"""Slantfloor: floors of slanted tiles, laid, flipped, braced and bent."""

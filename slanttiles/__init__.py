"""Slanttiles: grids done in pieces, by hands, with little room."""

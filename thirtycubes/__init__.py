"""Thirtycubes: cubes with painted sides, alike by turning."""

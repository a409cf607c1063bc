"""Overlapturns: loops written with overlapping turns."""

"""Glidenames: names on a map through all its scales."""

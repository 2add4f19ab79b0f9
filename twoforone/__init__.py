"""Twoforone: two stones for one, and how many reach any place."""

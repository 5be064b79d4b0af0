"""Everyfoe: what a plan gets and can hold against all foes."""

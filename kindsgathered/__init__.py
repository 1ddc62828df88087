"""Kindsgathered: kinds gathered by draws."""

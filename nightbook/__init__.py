"""Nightbook: the book of an inn, with chances told exactly and papers for what is told."""

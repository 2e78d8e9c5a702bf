"""Surespan: ordered patterns over text."""

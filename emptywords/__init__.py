"""Emptywords: a program ends just if a told word is empty."""

"""The tests of emptywords: python3 -m unittest, from the top of the repository."""

"""Tests of the package bentplane: python3 -m unittest discover -s tests -t ."""

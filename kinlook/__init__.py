"""Kinlook: which states of machines are alike."""

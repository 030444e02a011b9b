"""Summitwater: steady trade over a hill, and keepers' rules."""

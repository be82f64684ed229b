"""Throws that land apart, patterns that go round, and the fewest swaps from one to another."""

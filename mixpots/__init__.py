"""Mixpots: few spoilt wares among many, found by tests of mixtures."""

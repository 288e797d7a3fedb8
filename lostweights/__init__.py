"""Lostweights: boxes of weights of which some get lost, and the loads that are weighed all the same."""

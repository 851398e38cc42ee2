"""Leastloss: wishes of time with prices, and the machine that loses least."""

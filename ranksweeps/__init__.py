"""Rank sweeps: chains of order filters over rows of integers, decided for all rows."""

"""Wontbook: what is usual, what is seldom."""

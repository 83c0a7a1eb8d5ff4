"""Payorder: orders in which each demand pays what it can."""

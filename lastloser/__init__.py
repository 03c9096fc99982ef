"""Lastloser: heaps in which who makes the last move loses, and tables that tell who wins."""

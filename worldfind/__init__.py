"""Worldfind: worlds that keep sayings about ties."""

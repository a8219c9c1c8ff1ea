"""Shapelang: a small language with inferred schemes, complete matches, and a compiler."""

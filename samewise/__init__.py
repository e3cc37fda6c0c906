"""Samewise: expressions kept by classes of sameness."""

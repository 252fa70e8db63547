"""Readround: readings that go round through the years."""

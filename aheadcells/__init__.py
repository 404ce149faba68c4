"""Cells dealt ahead of a run of which only the needs are known."""

"""Doubtwell: certain answers from interval data with priced probes."""

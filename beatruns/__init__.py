"""Beatruns: stretches of a text that come again and again, and texts without any."""

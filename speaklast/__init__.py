"""Speaklast: nets of filtered table feeds, and which of them end right."""

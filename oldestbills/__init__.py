"""Oldestbills: money laid on the oldest bill."""

"""Onecut: every stretch of days told in integers, less than one off."""

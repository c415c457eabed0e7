"""Everycycle: circuits settled for all runs, with papers."""

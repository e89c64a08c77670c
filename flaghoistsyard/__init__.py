"""Signals by flags: hoists, messages put into hoists, and a code book."""

"""Soundrules: sounds of words, changed by rules laid in order."""

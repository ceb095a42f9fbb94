"""Leadnames: a house of files in which names lead on."""

"""Surelywrong: complaints about a text that is still being written."""

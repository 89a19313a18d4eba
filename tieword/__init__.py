"""Tieword: one writing for all webs that are alike."""

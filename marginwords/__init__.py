"""Marginwords: remarks hung on stretches of a text that many hands change."""

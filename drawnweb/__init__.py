"""Drawnweb: webs drawn together."""

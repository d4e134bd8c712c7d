"""Uplines: nodes on levels, drawn without a crossing."""

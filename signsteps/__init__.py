"""Signsteps: unit steps whose products turn sign."""

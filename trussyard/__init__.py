"""Trussyard: frames of bars at rest or moving, told exactly."""

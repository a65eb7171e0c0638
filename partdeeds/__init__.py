"""Partdeeds: things put together of parts of deeds."""

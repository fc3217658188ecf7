"""Tallyveil: a house of counts that lets out tables with numbers left out."""

"""Rankyard: things of which some stand under others."""

"""Fewchecks: words mended by checks of few letters."""

"""Keptform: letters that keep their form between masters."""

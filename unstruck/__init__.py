"""Unstruck: placings on boards with holes."""

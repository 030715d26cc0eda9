"""Namedmoments: what runs down and grows, at all moments at once."""

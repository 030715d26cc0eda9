"""The tests of namedmoments."""

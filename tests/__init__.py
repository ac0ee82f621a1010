"""The tests of stemsteps."""

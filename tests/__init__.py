"""The tests of goesout."""

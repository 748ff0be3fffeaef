"""The tests of listandpage."""

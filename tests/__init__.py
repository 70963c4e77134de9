"""Tests of the package knownways."""

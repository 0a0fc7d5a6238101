"""The tests of the package, each file for itself."""

"""Contentnames: code kept by what it says, names apart."""

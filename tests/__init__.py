"""Tests of the package darkthread."""

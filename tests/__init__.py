"""Tests of spentframes, one file for each module of the package."""

"""Tests of nearlines."""

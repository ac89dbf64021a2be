"""Nearlines: a machine whose boxes are kept near it in lines."""

"""Duetimes: works that come, and last times that are kept."""

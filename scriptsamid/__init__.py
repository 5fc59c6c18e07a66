"""Scriptsamid: programs of packages amid an upgrade."""

"""Oncepost: services that commit rows and messages together."""

"""Bothbooks: who follows whom, kept in two books."""

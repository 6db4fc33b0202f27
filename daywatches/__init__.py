"""Daywatches: watches on one day in so many, for all days."""

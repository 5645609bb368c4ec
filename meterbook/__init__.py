"""Meterbook: meters, what they tell, and what is owed."""

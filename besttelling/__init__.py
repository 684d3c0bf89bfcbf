"""Besttelling: what to tell, so that the best is done."""

"""Tests of besttelling."""

"""Leavelots: lots from which somebody can always leave."""

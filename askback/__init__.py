"""Askback: each newcomer asks elder ones as far back as the one ahead says."""

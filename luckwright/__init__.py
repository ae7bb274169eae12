"""Luckwright: exact chances, trials, walks, plans and draws."""

"""Outlivers: even bets between those who may die first."""

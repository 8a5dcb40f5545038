"""Tranchefall: coins that fall through ranks."""

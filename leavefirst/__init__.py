"""Leavefirst: signs are changed while people are inside."""

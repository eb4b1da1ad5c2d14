"""Stintwise: machines that run a while and rest a while."""

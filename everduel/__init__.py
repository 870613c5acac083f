"""Everduel: two hands lead a walk through rooms for ever."""

"""Everduel: two hands lead a walk through rooms for ever, and statements of worlds told by such walks."""

"""Shiftmeet: sleepers that wake by plans, and a shift that nobody knows."""

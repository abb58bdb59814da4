"""Backwater: ponds that spill, and unspill by lots what is taken back, whatever is done between."""

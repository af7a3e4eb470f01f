"""Partstell: which measures of a table stored parts tell."""

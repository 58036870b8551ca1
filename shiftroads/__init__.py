"""Shiftroads: grammars, tables that read by them, and papers for what is told."""

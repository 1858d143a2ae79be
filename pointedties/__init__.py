"""Pointedties: ties of a web pointed so that two in a row lead to a third."""

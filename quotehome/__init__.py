"""Quotehome: search chains under which every quote of a text is found."""

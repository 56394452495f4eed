"""Turnsets: boxes ticked within boxes, for all that will ever come into them."""

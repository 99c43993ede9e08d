"""Lowerboards: which orders come of an order by putting wrong pairs right."""

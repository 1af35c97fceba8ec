"""Falsedays: what people who lay their notes together see of a false day."""

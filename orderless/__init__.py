"""Orderless: programs of rules without an order."""

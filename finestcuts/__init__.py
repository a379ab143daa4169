"""Any number of transactions at once, and the one finest way to cut them into pieces."""

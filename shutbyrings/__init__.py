"""Orders of signs that nobody tells: terms, orders, facts and needs."""

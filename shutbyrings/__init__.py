"""Orders of signs that nobody tells: terms, orders, facts, books of rules, and papers about them."""

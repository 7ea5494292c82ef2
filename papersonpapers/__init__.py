"""Papers that stand on other papers."""

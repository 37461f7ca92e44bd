"""Claims, the papers that show them, and a checker of these."""

"""What all stages rest on: kinds of values, exact numbers, checks, fractions and rows."""

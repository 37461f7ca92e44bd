"""Few draws that serve for all."""

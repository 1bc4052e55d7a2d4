"""Running cases, and what is written down about them."""

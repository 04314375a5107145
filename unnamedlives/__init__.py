"""How long values without a name live, and which references outlive them."""

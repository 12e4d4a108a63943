"""Programs as bits."""

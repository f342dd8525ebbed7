"""Words parted by patterns: the least sets."""

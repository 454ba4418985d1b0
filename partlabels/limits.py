"""How much a scheme may have, and how great its numbers may be."""

MOST_COUNTERS = 4
MOST_KINDS = 6
MOST_DEEDS = 6
GREATEST_NUMBER = 99

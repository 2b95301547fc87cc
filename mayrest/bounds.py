"""The limits that the whole package keeps to."""

BATCH = 10
MAX_CUTS = 4
MAX_EDITS = 40
MAX_LISTED = 6
MAX_MODULES = 24
MAX_MOVES = 2
MAX_NAMES = 6
MAX_RULE_NAMES = 4
MAX_RULES = 8
MAX_USES = 200

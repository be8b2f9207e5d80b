"""The greatest numbers that the package is made for."""

MAX_BOTTOM = 12
MAX_CUTS = 4
MAX_EDITS = 20
MAX_FACTOR = 100
MAX_KINDS = 4
MAX_LENGTH = 10 ** 30
MAX_RUNS = 6
MAX_STEP = 12
MAX_WEIGHT = 1000

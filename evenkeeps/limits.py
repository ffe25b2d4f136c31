"""The limits that programs and lengths have."""

MOST_PLACES = 3
MOST_STATEMENTS = 24
MOST_DRAWS = 6
MOST_NESTED = 4
MOST_ON_A_WAY = 3
MOST_LENGTH = 60
SETTLED = 19

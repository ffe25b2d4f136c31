"""Texts of samplers that several tests use."""

from tests.support import text_of

SINGLE = "places 1\ndraw r below n\nif r is 0\n  put 0"
PAIR = """places 2
if n < 3
  if n is 1
    put 0
  else
    put 1
else
  draw r below n
  if r < 2
    if r is 0
      put 0
    else
      put 1"""
# Three places, of which each one is filled in turn and then taken with the same chance.
TRIPLE = text_of(
    "if n < 4", "  if n is 1", "    put 0", "  if n is 2", "    put 1", "  if n is 3", "    put 2",
    "else", "  draw r below n", "  if r is 0", "    put 0", "  if r is 1", "    put 1", "  if r is 2", "    put 2",
)
# One of two places, each with the same chance; the item before it goes.
SHUFFLED = text_of(
    "draw r below n", "if r is 0", "  empty 0", "  empty 1", "  put 0", "  draw s below 2", "  if s is 0",
    "    exchange 0 1", places=2,
)
# The same with three places.
SHUFFLED_THREE = text_of(
    "draw r below n", "if r is 0", "  empty 0", "  empty 1", "  empty 2", "  put 0", "  draw s below 3", "  if s is 1",
    "    exchange 0 1", "  if s is 2", "    exchange 0 2",
)
# Even for items; but the pair (1, 2) never comes, and from 3 on the others do.
PAIRLESS = text_of(
    "if n < 3", "  draw r below n", "  if r is 0", "    put 0", "else", "  draw r below n + 1", "  if r < 2",
    "    if n is 3", "      put 1", "    else", "      if r is 0", "        put 0", "      else", "        put 1",
    places=2,
)
# Even for items, and for pairs up to 11; the item 12 never comes together with another one at first.
LATE_PAIRS = text_of(
    "if n < 12", "  if n < 3", "    if n is 1", "      put 0", "    else", "      put 1", "  else",
    "    draw r below n", "    if r is 0", "      put 0", "    if r is 1", "      put 1", "else",
    "  draw r below n + 1", "  if r < 2", "    if n is 12", "      empty 1", "      put 0", "    else",
    "      if r is 0", "        put 0", "      else", "        put 1", places=2,
)
# Place 0 is that of `single`, place 1 has the last item unless that has gone to place 0.
ONE_PLACE = text_of("draw r below n", "put 1", "if r is 0", "  put 0", places=2)
# What `single` does, but from 19 on (from 20 on) what lies there is lost now and then.
LATE_19 = text_of(
    "draw r below n", "if r is 0", "  put 0", "else", "  draw s below 3*n", "  if s < n - 9", "    if s < 9",
    "      draw q below 1", "    else", "      empty 0", places=1,
)
LATE_20 = text_of(
    "draw r below n", "if r is 0", "  put 0", "else", "  draw s below 3*n", "  if s < n - 9", "    if s < 9",
    "      draw q below 1", "    else", "      if s is 9", "        draw q below 1", "      else", "        empty 0",
    places=1,
)
# What `single` does, but a new item is put with the chance 1 / n + (n - 19) * (n - 20) / (9 * n ** 3) from 19 on. Two
# things change sides for each condition that holds, so that three of them cut out the s from 10 to n - 10.
LATE_21 = text_of(
    "put 1", "draw r below n", "if r is 0", "  exchange 0 1", "draw s below 3*n", "draw x below 3*n", "if s < n - 9",
    "  if r < 3", "    if x < n - 9", "      exchange 0 1", "      if s < 9", "        exchange 0 1", "      if s is 9",
    "        exchange 0 1",
    "  if r is 0", "    if x < 2*n - 7", "      exchange 0 1", "      if s < 9", "        exchange 0 1",
    "      if s is 9", "        exchange 0 1",
    "empty 1", places=2,
)


def late(start, form="n + 1"):
    """`single` up to some length, from which on something else is drawn below."""
    return text_of(
        f"if n < {start}", "  draw r below n", "  if r is 0", "    put 0", "else", f"  draw r below {form}",
        "  if r is 0", "    put 0", places=1,
    )


# One to three places; exchanges, places that are emptied, new items that are lost and put again, tests of n, names that
# are drawn in several branches, names that nothing asks for, programs without draws or without anything.
SHORT = (
    "places 1", "places 2", "places 3",
    SINGLE, PAIR, TRIPLE, SHUFFLED, SHUFFLED_THREE, PAIRLESS, ONE_PLACE,
    text_of("put 0", places=1), text_of("exchange 0 1", "put 0", places=2),
    text_of("exchange 1 2", "exchange 0 1", "put 0"),
    text_of("put 0", "empty 0", places=1), text_of("put 0", "empty 0", "put 0", places=1),
    text_of("draw r below 3", "put 1", "if r is 1", "  empty 1", "exchange 0 1", "if r < 2", "  put 1", places=2),
    text_of("draw r below n + 1", "if r < 2", "  put 0", "  put 2", "  if r is 0", "    exchange 0 1", "else", "  put 1"),
    text_of("draw r below 2", "if r is 0", "  exchange 0 2", "else", "  exchange 1 2", "put 1", "draw s below n",
            "if s is 1", "  empty 2"),
    text_of("if n is 2", "  draw r below 3", "else", "  draw r below 2*n - 1", "if r < n - 1", "  put 0", places=1),
    text_of("draw a below 2", "if a is 0", "  draw r below 3", "else", "  draw r below n", "if r is 1", "  put 1",
            "else", "  exchange 0 1", "  put 0", places=2),
    text_of("draw a below 2", "draw b below n", "draw c below 3", "if a is 1", "  if b < n - 1", "    put 2", "if c is 2",
            "  exchange 0 2", "  put 1"),
    text_of("if n < 3", "  put 0", "else", "  if n is 4", "    empty 0", "  else", "    draw r below 2", "    if r < 1",
            "      put 1", places=2),
    text_of("draw r below n", "put 0", places=1),
    text_of("draw r below 2*n", "if r < n", "  if r is 0", "    put 0", "  else", "    exchange 0 1", "else",
            "  if r < 2*n - 1", "    empty 1", "  else", "    put 1", places=2),
    text_of("draw r below 4", "if r is 9", "  put 0", "if r < -3", "  put 1", "if r < 3*n + 9", "  put 2"),
)


def idle(less, places=2):
    """`single` in place 0; place 1, in which nothing ever lies, is emptied now and then."""
    return text_of(
        "draw r below n", "draw y below 9", "draw z below 9", "if r is 0", "  put 0", "if y is 0", f"  if z < {less}",
        "    empty 1", places=places)

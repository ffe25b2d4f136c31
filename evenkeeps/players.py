"""Players, which do a sampler's program for item after item with draws that are handed in."""

from evenkeeps.checks import check_length, check_sampler
from evenkeeps.errors import InvalidDraws, NotAPlayer, NothingBack
from evenkeeps.limits import MOST_LENGTH
from evenkeeps.steps import carried
from evenkeeps.walks import moves_with, walked

MOST_RUN_LENGTH = 5


class Player:
    """A sampler at work. Its state is a triple: the length, the row and the state before."""

    def __init__(self, sampler):
        check_sampler(sampler)
        self.sampler = sampler
        self.state = (0, (None,) * sampler.places, None)

    @property
    def length(self):
        """The number of items that have come."""
        return self.state[0]

    @property
    def row(self):
        """What lies in the places."""
        return self.state[1]

    def feed(self, *draws):
        """The next item comes, and these numbers are drawn."""
        item = self.length + 1
        moves = moves_with(self.sampler.program, self.sampler.places, item, draws)
        self.state = (item, carried(self.row, moves, item), self.state)

    def back(self):
        """Takes back the last item."""
        if self.length == 0:
            raise NothingBack()
        self.state = self.state[2]

    def twin(self):
        """Another player at the same point."""
        other = Player(self.sampler)
        other.state = self.state
        return other


class Trial:
    """A block after which a player is as at its beginning."""

    def __init__(self, player):
        if not isinstance(player, Player):
            raise NotAPlayer(player)
        self.player = player
        self.kept = player.state

    def __enter__(self):
        self.kept = self.player.state
        return self.player

    def __exit__(self, kind, value, trace):
        self.player.state = self.kept


def tried(player, deed):
    """What a deed returns for a player that is afterwards as before."""
    with Trial(player) as same:
        return deed(same)


def runs(sampler, length):
    """Yields a pair (draws, row) for each row of draws that can happen, in the order of the draws."""
    check_sampler(sampler)
    check_length(length, most=MOST_RUN_LENGTH)
    row = (None,) * sampler.places
    yield from runs_behind(sampler, length, (), row)


def runs_behind(sampler, length, past, row):
    """Yields the runs that begin with these draws, which have led to this row."""
    item = len(past) + 1
    if item > length:
        yield (past, row)
        return
    for draws, moves in draws_behind(sampler, item, ()):
        longer = past + (draws,)
        after = carried(row, moves, item)
        yield from runs_behind(sampler, length, longer, after)


def draws_behind(sampler, n, draws):
    """Yields a pair (draws, moves) for each way to go on drawing in the step n behind these draws."""
    bound, moves = walked(sampler.program, sampler.places, n, draws)
    if bound is None:
        yield (draws, moves)
        return
    for number in range(bound):
        longer = draws + (number,)
        yield from draws_behind(sampler, n, longer)


def play(sampler, rows):
    """The row at the end, if these draws, a tuple for each item, are drawn."""
    check_sampler(sampler)
    if not isinstance(rows, tuple) or len(rows) > MOST_LENGTH:
        raise InvalidDraws(None)
    player = Player(sampler)
    for index, draws in enumerate(rows):
        if not isinstance(draws, tuple):
            raise InvalidDraws(index)
        try:
            player.feed(*draws)
        except InvalidDraws:
            raise InvalidDraws(index) from None
    return player.row

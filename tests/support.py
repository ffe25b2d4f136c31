"""What several tests share."""


class Odd:
    """A thing of a foreign class that cannot be compared, counted or tested for truth."""

    def __eq__(self, other):
        raise AssertionError("compared")

    def __len__(self):
        raise AssertionError("counted")

    def __bool__(self):
        raise AssertionError("tested")

    def __hash__(self):
        raise AssertionError("hashed")


ODD = Odd()
NO_NUMBERS = (None, True, False, "1", "", b"1", (), (1,), [1], {}, {1}, ODD, object(), len, int)


def caught(test, kind, deed, /, *values, **named):
    """The error of this very class that the call raises."""
    try:
        deed(*values, **named)
    except Exception as error:
        test.assertIs(type(error), kind, repr(error))
        return error
    test.fail(f"no {kind.__name__} for {values!r} {named!r}")


def steps(seed):
    """A function that gives whole numbers from 0 on below its argument, the same ones in each run."""
    state = [seed]

    def below(bound):
        state[0] = (state[0] * 6364136223846793005 + 1442695040888963407) % 2 ** 64
        return (state[0] >> 33) % bound

    return below


def text_of(*lines, places=3):
    """The text of a sampler with these lines."""
    return "\n".join([f"places {places}", *lines])


def wrong_samplers(sampler):
    """Things that are no samplers; the argument is one."""
    return (
        None, 0, 1, True, "", "places 1", str(sampler), b"places 1", (), (sampler,), [sampler], {"sampler": sampler},
        ODD, object(), type(sampler), len,
    )

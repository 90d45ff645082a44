"""How late the modulo may be taken, if sums are reckoned in integers."""

from guardsums.errors import BadModulus, BadSize
from guardsums.matrices import transposed
from guardsums.values import is_within

GREATEST_NUMBER = 10 ** 18
MOST_BITS = 128


def late(guard, most, bits):
    """The greatest number of symbols behind which no number of a state needs more bits; None if there is none."""
    if not is_within(most, 0, GREATEST_NUMBER):
        raise BadSize(most)
    if not is_within(bits, 1, MOST_BITS):
        raise BadSize(bits)
    limit = 1 << bits
    if guard.modulus > limit:
        raise BadModulus(guard.modulus)
    # The greatest state is reached from the greatest numbers on by the greatest symbols. Behind its numbers stands
    # a 1, times which each symbol adds what it adds.
    step = [row + (most * sum(more),) for row, more in zip(guard.matrix, guard.columns)]
    step.append((0,) * guard.size + (1,))
    state = (guard.modulus - 1,) * guard.size + (1,)
    if taken(step, state, limit) == state:
        return None
    return steps_below(step, state, limit)


def taken(step, state, limit):
    """The state behind a step, numbers above the limit lessened to it: further steps keep them there."""
    return tuple([min(limit, sum([a * b for a, b in zip(row, state)])) for row in step])


def steps_below(step, state, limit):
    """How many times a step can be taken before a number of the state reaches the limit; it moves with each step."""
    # No row of the matrix and no column of it is 0, as it can be undone: so a state that moves once never lessens,
    # and never stands still.
    doubled = []
    while not is_reached(taken(step, state, limit), limit):
        doubled.append(step)
        columns = transposed(step)
        step = [taken(columns, row, limit) for row in step]
    many = 0
    for place in reversed(range(len(doubled))):
        further = taken(doubled[place], state, limit)
        if not is_reached(further, limit):
            many, state = many + (1 << place), further
    return many


def is_reached(state, limit):
    """Whether a number of the state is at the limit."""
    return max(state) >= limit

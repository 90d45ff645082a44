"""How many changes of each weight a guard does not see, also in great blocks."""

from guardsums.cycles import Cycles
from guardsums.errors import BadSize, TooMany
from guardsums.residues import raised_number
from guardsums.values import is_integer, is_within

MOST_STATES = 4096
MOST_WEIGHT = 40
MOST_LENGTH = 2000


def weights(guard, length, most):
    """For each weight from 0 to most, how many changes of a block of so many symbols are not seen."""
    check_states(guard)
    check_length(length)
    if not is_within(most, 0, MOST_WEIGHT):
        raise BadSize(most)
    return numbers(guard, Cycles(guard), length, most)


def least_weight(guard, length):
    """The least weight from 1 on of which some change of a block of so many symbols is not seen; None if none is."""
    check_states(guard)
    check_length(length)
    return first_weight(numbers(guard, Cycles(guard), length, enough(guard)))


def first_length(guard, weight):
    """The least length of blocks of which a change of a weight from 1 to weight is not seen; None if above 2,000."""
    check_states(guard)
    if not is_within(weight, 1, MOST_WEIGHT):
        raise BadSize(weight)
    cycles, most = Cycles(guard), min(weight, enough(guard))
    # What is not seen in a block is not seen in a longer one: these are lengths without and with such a change.
    without, found = 0, MOST_LENGTH + 1
    while found - without > 1:
        length = (without + found) // 2
        if first_weight(numbers(guard, cycles, length, most)) is None:
            without = length
        else:
            found = length
    return None if found > MOST_LENGTH else found


def check_states(guard):
    """Raises TooMany if the guard has too many states."""
    many = raised_number(guard.modulus, guard.size)
    if many > MOST_STATES:
        raise TooMany("states", many, MOST_STATES)


def check_length(length):
    """Raises BadSize for any value that is no integer from 0 on."""
    if not is_integer(length) or length < 0:
        raise BadSize(length)


def enough(guard):
    """A weight up to which some change is not seen if any is."""
    # There are more ways to change k + 1 symbols than states: two of them meet, and differ by an unseen change.
    return guard.size + 1


def first_weight(found):
    """The first weight from 1 on whose number is not 0; None if all are."""
    for weight, number in enumerate(found):
        if weight > 0 and number > 0:
            return weight
    return None


def numbers(guard, cycles, length, most):
    """For each weight from 0 to most the number of unseen changes, by the sums of MacWilliams."""
    symbols = raised_number(guard.modulus, guard.width)
    totals = [0] * (most + 1)
    counts = cycles.counts(length)
    for met in counts:
        # The numbers of Krawtchouk for the rows that meet so many symbols, each one from the two ahead of it.
        last, number = 0, 1
        for weight in range(most + 1):
            totals[weight] = totals[weight] + counts[met] * number
            factor = (length - weight) * (symbols - 1) + weight - symbols * met
            further = factor * number - (symbols - 1) * (length - weight + 1) * last
            last, number = number, further // (weight + 1)
    states = raised_number(guard.modulus, guard.size)
    return tuple([total // states for total in totals])

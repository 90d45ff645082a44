"""Guards: linear steps of a few numbers modulo M that read a block symbol by symbol."""

from guardsums.errors import (BadColumns, BadEnd, BadMatrix, BadModulus, BadStart, BadState, BadSymbol, NotUndone,
                              TooMany)
from guardsums.matrices import applied, product, undone
from guardsums.values import is_list, is_within, wrong_number, wrong_row, wrong_symbol

GREATEST_MODULUS = 10 ** 18
MOST_NUMBERS = 16
MOST_SYMBOLS = 10000
# So many symbols are one group, doubled so often from one on. To make the step of a group takes about as long as
# GROUP * c + DOUBLINGS * k symbols one by one; it is made for blocks of so many times as many.
GROUP = 32
DOUBLINGS = 5
WORTH = 3


class Guard:
    """A guard: each symbol x takes its state v to matrix v + columns x, from start on; told is the state plus end."""

    def __init__(self, modulus, matrix, columns, start, end):
        check_modulus(modulus)
        size = len(matrix)
        if not is_within(size, 1, MOST_NUMBERS):
            raise TooMany("numbers", size, MOST_NUMBERS)
        self.modulus = modulus
        self.size = size
        self.matrix = checked_matrix(matrix, size, modulus)
        if undone(modulus, self.matrix) is None:
            raise NotUndone()
        self.columns = checked_columns(columns, size, modulus)
        self.width = len(self.columns[0])
        wrong = wrong_number(start, size, modulus)
        if wrong is not None:
            raise BadStart(wrong)
        wrong = wrong_number(end, size, modulus)
        if wrong is not None:
            raise BadEnd(wrong)
        self.start = tuple(start)
        self.end = tuple(end)

    def __eq__(self, other):
        return (isinstance(other, Guard) and self.modulus == other.modulus and self.matrix == other.matrix
                and self.columns == other.columns and self.start == other.start and self.end == other.end)

    def told(self, block):
        """What is told of a list of symbols."""
        state = self.behind(block, self.start)
        return tuple([(number + more) % self.modulus for number, more in zip(state, self.end)])

    def behind(self, block, state):
        """The state behind a list of symbols, if it is state ahead of them."""
        if not isinstance(state, tuple):
            raise BadState(0)
        wrong = wrong_number(state, self.size, self.modulus)
        if wrong is not None:
            raise BadState(wrong)
        wrong = wrong_symbol(block, self.width, self.modulus)
        if wrong is not None:
            raise BadSymbol(wrong)
        if len(block) > MOST_SYMBOLS:
            raise TooMany("symbols", len(block), MOST_SYMBOLS)
        return state_behind(self, block, state)


def state_behind(guard, block, state):
    """The state behind any number of symbols, if it is state ahead of them."""
    # Long blocks are read in groups, all symbols of one at once; the rest of them ahead, one by one.
    alone = len(block)
    if alone >= WORTH * (GROUP * guard.width + DOUBLINGS * guard.size):
        alone = alone % GROUP
    # One matrix for both: what it does to the state with the symbols behind it.
    step = beside(guard.matrix, guard.columns)
    for symbol in block[:alone]:
        state = applied(guard.modulus, step, state + symbol)
    if alone == len(block):
        return state
    step = step_of_group(guard)
    numbers = tuple([number for symbol in block[alone:] for number in symbol])
    for at in range(0, len(numbers), GROUP * guard.width):
        state = applied(guard.modulus, step, state + numbers[at:at + GROUP * guard.width])
    return state


def step_of_group(guard):
    """The matrix that takes a state and the numbers of a group of symbols behind it to the state behind them."""
    ahead, columns = guard.matrix, guard.columns
    for _ in range(DOUBLINGS):
        # As many symbols again stand behind the first ones.
        columns = beside(product(guard.modulus, ahead, columns), columns)
        ahead = product(guard.modulus, ahead, ahead)
    return beside(ahead, columns)


def beside(one, other):
    """Two matrices side by side."""
    return tuple([row + more for row, more in zip(one, other)])


def check_modulus(modulus):
    """Raises BadModulus for any value that is no modulus of a guard."""
    if not is_within(modulus, 2, GREATEST_MODULUS):
        raise BadModulus(modulus)


def checked_matrix(rows, size, modulus):
    """The tuple of the rows, tuples; BadMatrix for the first that is no list of so many numbers, or if they are few."""
    wrong = wrong_row(rows, size, size, modulus)
    if wrong is not None:
        raise BadMatrix(wrong)
    return tuple([tuple(row) for row in rows])


def checked_columns(rows, size, modulus):
    """The tuple of the rows, tuples; BadColumns for the first that is unlike the first one, or if they are not size."""
    if len(rows) == 0 or not is_list(rows[0]) or not is_within(len(rows[0]), 1, MOST_NUMBERS):
        raise BadColumns(0)
    wrong = wrong_row(rows, size, len(rows[0]), modulus)
    if wrong is not None:
        raise BadColumns(wrong)
    return tuple([tuple(row) for row in rows])

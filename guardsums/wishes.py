"""Which symbols at some places of a great block make a wished sum."""

from guardsums.errors import BadPlace, BadTold, TooMany
from guardsums.great import check_guard, told_of
from guardsums.howell import NoWay, Ways, count_ways, is_no_way, is_ways, solutions
from guardsums.matrices import transposed
from guardsums.turns import Turns
from guardsums.values import frozen, is_symbol, is_within, wrong_symbol

MOST_PLACES = 16


class Granted:
    """With these symbols at the places wished is told; kernel is the howell form of all changes that are not seen."""

    def __init__(self, guard, block, places, wished, symbols, kernel):
        self.guard = frozen(guard)
        self.block = frozen(block)
        self.places = frozen(places)
        self.wished = frozen(wished)
        self.symbols = frozen(symbols)
        self.kernel = frozen(kernel)


class Vain:
    """No symbols at the places help: left times what is told is the same with all of them, another than with wished."""

    def __init__(self, guard, block, places, wished, left):
        self.guard = frozen(guard)
        self.block = frozen(block)
        self.places = frozen(places)
        self.wished = frozen(wished)
        self.left = frozen(left)


def wish(guard, block, places, wished):
    """Granted if the guard tells what is wished with some symbols at these places, otherwise Vain."""
    check_wish(guard, block, places, wished)
    told = solutions(guard.modulus, matrix_of(guard, block, places), gap_of(guard, block, wished))
    if isinstance(told, NoWay):
        return Vain(guard, block, places, wished, told.left)
    symbols = []
    for index, place in enumerate(places):
        change = told.one[index * guard.width:(index + 1) * guard.width]
        symbols.append([(old + more) % guard.modulus for old, more in zip(block.symbol_of(place), change)])
    return Granted(guard, block, places, wished, symbols, told.kernel)


def count_granted(guard, block, places, wished):
    """In how many ways symbols at these places make the guard tell what is wished."""
    check_wish(guard, block, places, wished)
    return count_ways(guard.modulus, matrix_of(guard, block, places), gap_of(guard, block, wished))


def is_granted(granted):
    """Whether wished is told with the symbols of a Granted, and its kernel is the howell form itself."""
    guard, block, places, wished = granted.guard, granted.block, granted.places, granted.wished
    check_wish(guard, block, places, wished)
    symbols = granted.symbols
    if not isinstance(symbols, tuple) or len(symbols) != len(places):
        return False
    if wrong_symbol(symbols, guard.width, guard.modulus) is not None:
        return False
    changes = []
    for place, symbol in zip(places, symbols):
        changes.extend([new - old for new, old in zip(symbol, block.symbol_of(place))])
    matrix, gap = matrix_of(guard, block, places), gap_of(guard, block, wished)
    return is_ways(Ways(guard.modulus, matrix, gap, changes, granted.kernel))


def is_vain(vain):
    """Whether left times what is told is the same with all symbols at the places, and another than with wished."""
    guard, block, places, wished = vain.guard, vain.block, vain.places, vain.wished
    check_wish(guard, block, places, wished)
    matrix, gap = matrix_of(guard, block, places), gap_of(guard, block, wished)
    return is_no_way(NoWay(guard.modulus, matrix, gap, vain.left))


def check_wish(guard, block, places, wished):
    """Raises OtherGuard, TooMany, BadPlace or BadTold unless these are a wish."""
    check_guard(guard, block)
    if not is_within(len(places), 1, MOST_PLACES):
        raise TooMany("places", len(places), MOST_PLACES)
    seen = {}
    for index, place in enumerate(places):
        if not is_within(place, 0, block.size - 1) or place in seen:
            raise BadPlace(index)
        seen[place] = True
    if not is_symbol(wished, guard.size, guard.modulus):
        raise BadTold()


def matrix_of(guard, block, places):
    """The matrix that takes the changes of the numbers at these places to those of what is told."""
    turns = Turns(guard.modulus, guard.matrix)
    columns = []
    for factors in turns.all_raised([block.size - 1 - place for place in places]):
        columns.extend([turns.act(factors, column) for column in transposed(guard.columns)])
    return transposed(columns)


def gap_of(guard, block, wished):
    """What must be added to what is told of the block as it is."""
    return tuple([(new - old) % guard.modulus for new, old in zip(wished, told_of(guard, block))])

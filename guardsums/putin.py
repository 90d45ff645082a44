"""Whether a symbol can be put into some block without being seen."""

from guardsums.errors import BadSymbol
from guardsums.guards import state_behind
from guardsums.matrices import applied, product, transposed
from guardsums.spans import Span
from guardsums.values import frozen, is_matrix, is_symbol, wrong_symbol


class PutIn:
    """Behind the block the symbol is unseen; no block of fewer symbols has one that is (the told one)."""

    def __init__(self, guard, block, symbol):
        self.guard = frozen(guard)
        self.block = frozen(block)
        self.symbol = frozen(symbol)


class NeverPutIn:
    """Behind no block is a symbol (the told one) unseen: each row of left shows it for the blocks of one length."""

    def __init__(self, guard, symbol, left):
        self.guard = frozen(guard)
        self.symbol = frozen(symbol)
        self.left = frozen(left)


def put_in(guard, symbol=None):
    """PutIn if there are a block and a symbol (the told one) that is unseen behind it, otherwise NeverPutIn."""
    if symbol is not None and not is_symbol(symbol, guard.width, guard.modulus):
        raise BadSymbol(0)
    span = Span(guard.modulus, guard.size)
    if symbol is None:
        put_columns(span, None, guard.columns)
    state, columns, left = guard.start, product(guard.modulus, drift(guard), guard.columns), []
    for size in range(guard.size + 1):
        wish = wished(guard, state, symbol)
        if span.is_spanned(wish):
            found = span.made_of(wish)
            block = [symbol_in(found, distance, guard.width) for distance in reversed(range(size))]
            return PutIn(guard, block, symbol_in(found, None, guard.width) if symbol is None else symbol)
        left.append(span.against(wish))
        put_columns(span, size, columns)
        state, columns = applied(guard.modulus, guard.matrix, state), product(guard.modulus, guard.matrix, columns)
    return NeverPutIn(guard, symbol, left)


def drift(guard):
    """The matrix A - 1: what one step of zeros adds to a state."""
    return [row[:at] + (row[at] - 1,) + row[at + 1:] for at, row in enumerate(guard.matrix)]


def wished(guard, state, symbol):
    """What the symbols of a block must add to what the symbol behind it adds, from the state behind zeros."""
    added = applied(guard.modulus, drift(guard), state)
    if symbol is not None:
        more = applied(guard.modulus, guard.columns, symbol)
        added = [number + further for number, further in zip(added, more)]
    return tuple([-number % guard.modulus for number in added])


def put_columns(span, distance, columns):
    """Puts in what the numbers of the symbol at a distance add, None being that of the symbol behind the block."""
    for number, column in enumerate(transposed(columns)):
        span.put((distance, number), column)


def symbol_in(found, distance, width):
    """The symbol at this distance, whose numbers are the factors that were found."""
    return tuple([found.get((distance, number), 0) for number in range(width)])


def is_put_in(told):
    """Whether the block of a PutIn is one, its symbol is one, and it is unseen behind the block."""
    guard, block, symbol = told.guard, told.block, told.symbol
    if not isinstance(block, tuple) or not is_symbol(symbol, guard.width, guard.modulus):
        return False
    if wrong_symbol(block, guard.width, guard.modulus) is not None:
        return False
    state = state_behind(guard, block, guard.start)
    return state_behind(guard, [symbol], state) == state


def is_never_put_in(told):
    """Whether the rows of a NeverPutIn show that behind no block a symbol (the told one) is unseen."""
    guard, symbol, left = told.guard, told.symbol, told.left
    if symbol is not None and not is_symbol(symbol, guard.width, guard.modulus):
        return False
    if not is_matrix(left, guard.size + 1, guard.size):
        return False
    state = guard.start
    for size, row in enumerate(left):
        gap = applied(guard.modulus, [row], wished(guard, state, symbol))
        if gap == (0,) or not is_against(guard, symbol, size, row):
            return False
        state = applied(guard.modulus, guard.matrix, state)
    return True


def is_against(guard, symbol, size, row):
    """Whether the products of a row with all that can be chosen behind size symbols are 0."""
    none = (0,) * guard.width
    columns, steps = transposed(guard.columns), transposed(guard.matrix)
    if symbol is None and applied(guard.modulus, columns, row) != none:
        return False
    row = applied(guard.modulus, transposed(drift(guard)), row)
    for _ in range(size):
        if applied(guard.modulus, columns, row) != none:
            return False
        row = applied(guard.modulus, steps, row)
    return True

"""Changes that a guard does not see: bursts, pairs, exchanges, and how many there are of all kinds."""

from guardsums.errors import BadKind, BadSize, BadWidth, TooMany
from guardsums.exchanges import Exchanges
from guardsums.howell import Faithful, judge_kernel, kernel_of, lost_row, span_size
from guardsums.matrices import applied, identity, product, transposed
from guardsums.ratios import Ratio
from guardsums.residues import primes, raised_number
from guardsums.rounds import is_multiple, least_turns, round_of
from guardsums.stairs import Stairs
from guardsums.turns import Turns
from guardsums.values import frozen, is_matrix, is_within, wrong_symbol

BURST = "burst"
PAIR = "pair"
EXCHANGE = "exchange"
MOST_OF_BURST = 64
MOST_APART = 10 ** 30
MOST_PAIR = 2000
MOST_SYMBOLS = 1000
MOST_DIFFERENCES = 4096


class Seen:
    """All changes of this kind and size but the one that changes nothing are seen: back undoes mixing."""

    def __init__(self, guard, kind, size, back):
        self.guard = frozen(guard)
        self.kind = frozen(kind)
        self.size = frozen(size)
        self.back = frozen(back)


class Unseen:
    """A change of this kind and size that is not seen: mixing takes the numbers of its symbols, not all 0, to 0."""

    def __init__(self, guard, kind, size, change):
        self.guard = frozen(guard)
        self.kind = frozen(kind)
        self.size = frozen(size)
        self.change = frozen(change)


def mixing(guard, kind, size):
    """The matrix that takes the changed numbers of this kind and size to what they add to the state."""
    check_kind(kind, size)
    if kind == BURST:
        parts = columns_of_zeros(guard, size)[::-1]
    elif kind == PAIR:
        parts = [columns_behind(guard, size), guard.columns]
    else:
        ahead = columns_behind(guard, size)
        parts = [tuple([less(guard.modulus, row, column) for row, column in zip(ahead, guard.columns)])]
    return beside(parts)


def check_kind(kind, size):
    """Raises BadKind for any value that is no kind, BadSize for any value that is no size of this kind."""
    if not isinstance(kind, str) or kind not in (BURST, PAIR, EXCHANGE):
        raise BadKind(kind)
    if not is_within(size, 1, MOST_OF_BURST if kind == BURST else MOST_APART):
        raise BadSize(size)


def columns_of_zeros(guard, many):
    """The matrices A ** j G for the j from 0 on, so many of them."""
    parts = [guard.columns]
    for _ in range(many - 1):
        parts.append(product(guard.modulus, guard.matrix, parts[-1]))
    return parts


def columns_behind(guard, many):
    """The matrix A ** many G."""
    turns = Turns(guard.modulus, guard.matrix)
    factors = turns.raised(many)
    return transposed([turns.act(factors, column) for column in transposed(guard.columns)])


def less(modulus, row, other):
    """The first row less the second one."""
    return tuple([(number - more) % modulus for number, more in zip(row, other)])


def beside(parts):
    """The matrices side by side."""
    rows = []
    for lines in zip(*parts):
        rows.append(tuple([number for line in lines for number in line]))
    return tuple(rows)


def judge_change(guard, kind, size):
    """Seen if all changes of this kind and size but the one that changes nothing are seen, otherwise Unseen."""
    check_kind(kind, size)
    # More columns than numbers: one row of symbols that is so long holds an unseen change already.
    enough = min(size, guard.size // guard.width + 1) if kind == BURST else size
    told = judge_kernel(guard.modulus, mixing(guard, kind, enough))
    if isinstance(told, Faithful):
        return Seen(guard, kind, size, told.back)
    width = guard.width
    symbols = [told.row[at:at + width] for at in range(0, len(told.row), width)]
    return Unseen(guard, kind, size, [(0,) * width] * (size - enough) + symbols)


def is_seen(seen):
    """Whether back is a matrix whose product with mixing is the identity."""
    guard, kind, size = seen.guard, seen.kind, seen.size
    check_kind(kind, size)
    many = symbols_of(kind, size) * guard.width
    if not is_matrix(seen.back, many, guard.size) or many > guard.size:
        # Nothing undoes a matrix of more columns than rows.
        return False
    return product(guard.modulus, seen.back, mixing(guard, kind, size)) == identity(many)


def is_unseen(unseen):
    """Whether change is a tuple of symbols, not all 0, whose numbers mixing takes to 0."""
    guard, kind, size, change = unseen.guard, unseen.kind, unseen.size, unseen.change
    check_kind(kind, size)
    if not isinstance(change, tuple) or len(change) != symbols_of(kind, size):
        return False
    if wrong_symbol(change, guard.width, guard.modulus) is not None:
        return False
    numbers = tuple([number for symbol in change for number in symbol])
    return any(numbers) and not any(applied(guard.modulus, mixing(guard, kind, size), numbers))


def symbols_of(kind, size):
    """How many symbols tell a change of this kind and size."""
    if kind == BURST:
        return size
    return 2 if kind == PAIR else 1


def safe_burst(guard):
    """The greatest size of which all bursts are seen, 0 if there is none."""
    # The last of these parts has more columns than there are numbers: no more are needed.
    parts = columns_of_zeros(guard, guard.size // guard.width + 1)
    columns, size = transposed(parts[0]), 0
    while lost_row(guard.modulus, columns) is None:
        size = size + 1
        columns = columns + transposed(parts[size])
    return size


def least_pair(guard):
    """The least size of which a pair is not seen, for symbols of one number."""
    if guard.width != 1:
        raise BadWidth(guard.width)
    parts = primes(guard.modulus)
    turns = Turns(guard.modulus, guard.matrix)
    column = transposed(guard.columns)[0]
    # Two symbols cancel each other where the one has become a multiple of the other one.
    return min([least_turns(turns, round_of(turns, prime, 1), column, prime, is_multiple) for prime in parts])


def least_exchange(guard):
    """The least size of which an exchange is not seen."""
    parts = primes(guard.modulus)
    if guard.width > 1:
        for prime in parts:
            many = raised_number(prime, guard.width)
            if many > MOST_DIFFERENCES:
                raise TooMany("symbols", many, MOST_DIFFERENCES)
    turns = Turns(guard.modulus, guard.matrix)
    return min([Exchanges(turns, prime, guard.columns).least() for prime in parts])


def first_pair(guard, most):
    """The least size up to most of which a pair is not seen; None if there is none."""
    if not is_within(most, 1, MOST_PAIR):
        raise BadSize(most)
    columns = transposed(guard.columns)
    # The rows that take all columns to 0 keep of a symbol what no other one at the end of the pair can make up for.
    keepers = kernel_of(guard.modulus, columns)
    for size in range(1, most + 1):
        columns = [applied(guard.modulus, guard.matrix, column) for column in columns]
        kept = [applied(guard.modulus, keepers, column) for column in columns]
        if not spans_all(guard.modulus, transposed(kept), guard.width):
            return size
    return None


def spans_all(modulus, rows, width):
    """Whether rows of this width span all rows."""
    stairs = Stairs(modulus, width)
    for row in rows:
        stairs.put(row)
    return all([step is not None and step[place] == 1 for place, step in enumerate(stairs.steps)])


def unseen_number(guard, size):
    """How many changes of blocks of so many symbols are not seen, the one that changes nothing left out."""
    if not is_within(size, 1, MOST_SYMBOLS):
        raise BadSize(size)
    # From k symbols on, more of them add nothing new to the state.
    rows = [row for part in columns_of_zeros(guard, min(size, guard.size)) for row in transposed(part)]
    return all_changes(guard, size) // span_size(guard.modulus, rows, guard.size) - 1


def all_changes(guard, size):
    """How many changes of blocks of so many symbols there are, the one that changes nothing among them."""
    return raised_number(guard.modulus, guard.width * size)


def chance(guard, size):
    """The number of changes that are not seen over that of all changes but the one that changes nothing."""
    return Ratio(unseen_number(guard, size), all_changes(guard, size) - 1)

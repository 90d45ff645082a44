"""Rules that mend sums when blocks are joined, cut or changed, and whether they are right."""

from guardsums.alike import is_plain, plain_told
from guardsums.errors import BadMending, OtherForm
from guardsums.matrices import applied, identity, product, transposed, undone, unit
from guardsums.turns import Turns
from guardsums.values import frozen, is_integer, is_list, is_within

MOST_NUMBERS = 16


class Join:
    """told(u v) = power ** |v| (told(u) + before) + told(v) + after."""

    def __init__(self, power, before, after):
        size = checked_size(power)
        if not is_row_of(before, size) or not is_row_of(after, size):
            raise BadMending()
        self.power = frozen(power)
        self.before = frozen(before)
        self.after = frozen(after)


class Change:
    """A symbol at distance j that becomes another one adds power ** j columns (the other one less it)."""

    def __init__(self, power, columns):
        size = checked_size(power)
        if not is_list(columns) or len(columns) != size or not is_list(columns[0]):
            raise BadMending()
        width = len(columns[0])
        if not is_within(width, 1, MOST_NUMBERS) or not all([is_row_of(row, width) for row in columns]):
            raise BadMending()
        self.power = frozen(power)
        self.columns = frozen(columns)


class Cut:
    """told(u) = power ** |v| (told(u v) - told(v)) + after."""

    def __init__(self, power, after):
        size = checked_size(power)
        if not is_row_of(after, size):
            raise BadMending()
        self.power = frozen(power)
        self.after = frozen(after)


class Fits:
    """The rule is right for all blocks."""

    def __init__(self, guard, rule):
        self.guard = frozen(guard)
        self.rule = frozen(rule)


class Fails:
    """The rule is wrong for a plain block and so many zeros behind it, or for a change of zeros to the block."""

    def __init__(self, guard, rule, block, length):
        self.guard = frozen(guard)
        self.rule = frozen(rule)
        self.block = frozen(block)
        self.length = frozen(length)


def checked_size(power):
    """How many rows a matrix has; BadMending for any value that is no list of k lists of k integers, k up to 16."""
    if not is_list(power) or not is_within(len(power), 1, MOST_NUMBERS):
        raise BadMending()
    if not all([is_row_of(row, len(power)) for row in power]):
        raise BadMending()
    return len(power)


def is_row_of(value, size):
    """Whether any value is a list of so many integers."""
    return is_list(value) and len(value) == size and all([is_integer(number) for number in value])


def check_rule(guard, rule):
    """Raises OtherForm unless the rule has the size of the guard, a Change its width as well."""
    if len(rule.power) != guard.size:
        raise OtherForm()
    if isinstance(rule, Change) and len(rule.columns[0]) != guard.width:
        raise OtherForm()


def joined(guard, rule, first, second, length):
    """What a Join tells of two blocks, from what is told of each and the length of the second one."""
    check_rule(guard, rule)
    return summed(guard, [moved(guard, rule, length, summed(guard, [first, rule.before])), second, rule.after])


def changed(guard, rule, before, distance, old, new):
    """What a Change tells of a block in which a symbol at this distance has become another one."""
    check_rule(guard, rule)
    added = applied(guard.modulus, rule.columns, less(new, old))
    return summed(guard, [before, moved(guard, rule, distance, added)])


def cut(guard, rule, whole, second, length):
    """What a Cut tells of a block, from what is told of it with a second one behind it, and of the second one."""
    check_rule(guard, rule)
    return summed(guard, [moved(guard, rule, length, less(whole, second)), rule.after])


def summed(guard, rows):
    """The sum of rows, modulo M."""
    return tuple([sum(numbers) % guard.modulus for numbers in zip(*rows)])


def moved(guard, rule, many, row):
    """The power of the rule, so many times, times a row."""
    turns = Turns(guard.modulus, rule.power)
    return turns.act(turns.raised(many), row)


def right_join(guard):
    """The Join of the guard that is right."""
    before = tuple([-number % guard.modulus for number in summed(guard, [guard.start, guard.end])])
    return Join(guard.matrix, before, (0,) * guard.size)


def right_change(guard):
    """The Change of the guard that is right."""
    return Change(guard.matrix, guard.columns)


def right_cut(guard):
    """The Cut of the guard that is right."""
    return Cut(undone(guard.modulus, guard.matrix), summed(guard, [guard.start, guard.end]))


def judge_rule(guard, rule):
    """Fits if the rule is right for all blocks, otherwise Fails."""
    check_rule(guard, rule)
    wrong = first_wrong(guard, rule)
    if wrong is None:
        return Fits(guard, rule)
    block, length = wrong
    return Fails(guard, rule, block, length)


def is_fits(told):
    """Whether the rule of a Fits is right for all blocks."""
    check_rule(told.guard, told.rule)
    return first_wrong(told.guard, told.rule) is None


def is_fails(told):
    """Whether block and length of a Fails are as it tells them and the rule is wrong for them."""
    guard, rule, block, length = told.guard, told.rule, told.block, told.length
    check_rule(guard, rule)
    if not is_plain(block, guard.width) or not is_integer(length) or length < 0:
        return False
    size, distance, number = block
    if isinstance(rule, Change):
        return length == 0 and distance == size - 1 and is_wrong_change(guard, rule, distance, number)
    # As many zeros behind the block put its symbol further away.
    further = None if distance is None else distance + length
    whole = plain_told(guard, (size + length, further, number))
    first, second = plain_told(guard, block), plain_told(guard, (length, None, None))
    if isinstance(rule, Join):
        return joined(guard, rule, first, second, length) != whole
    return cut(guard, rule, whole, second, length) != first


def is_wrong_change(guard, rule, distance, number):
    """Whether a Change is wrong where zeros at this distance become 1 as this number."""
    zeros = (0,) * guard.width
    before = plain_told(guard, (distance + 1, None, None))
    told = changed(guard, rule, before, distance, zeros, unit(guard.width, number))
    return told != plain_told(guard, (distance + 1, distance, number))


def first_wrong(guard, rule):
    """A plain block and a length, of the fewest symbols for which the rule is wrong; None if it is right."""
    if isinstance(rule, Change):
        return first_wrong_change(guard, rule)
    empty, none, extra = gaps(guard, rule)
    if any(empty):
        return (0, None, None), 0
    # If n zeros behind a block make the rule wrong, one zero does behind a block of n - 1 symbols more at most:
    # n steps go wrong only where one of them does, and its state is a sum of states that such blocks reach.
    state, columns, added = guard.start, guard.columns, None
    for size in range(guard.size + 1):
        further = applied(guard.modulus, extra, less(state, guard.start))
        if any(summed(guard, [none, further])):
            return (size, None, None), 1
        # As the zeros of this size go right, a symbol among them goes wrong by what it adds itself.
        if added is not None:
            return (size, size - 1, added), 1
        added = first_column(guard, product(guard.modulus, extra, columns))
        state = applied(guard.modulus, guard.matrix, state)
        columns = product(guard.modulus, guard.matrix, columns)
    return None


def gaps(guard, rule):
    """How wrong a Join or a Cut is for two empty blocks, for none and one zero, and for each state further on.

    The last one is a matrix: it takes what the state behind the first block is more than start to what is wrong
    with one zero behind it, beyond what is wrong with one zero alone.
    """
    ends = summed(guard, [guard.start, guard.end])
    if isinstance(rule, Join):
        ahead = summed(guard, [ends, rule.before])
        none = summed(guard, [applied(guard.modulus, rule.power, ahead), rule.after])
        extra = [less(row, other) for row, other in zip(rule.power, guard.matrix)]
        return summed(guard, [ahead, rule.after]), none, extra
    back = product(guard.modulus, rule.power, guard.matrix)
    extra = [less(row, other) for row, other in zip(back, identity(guard.size))]
    empty = summed(guard, [less(ends, rule.after)])
    return empty, empty, extra


def first_wrong_change(guard, rule):
    """The plain block of the least distance at which a Change is wrong, and 0; None if it is right."""
    right, columns = guard.columns, rule.columns
    # Behind 2 k distances all are right, by the characteristic polynomial of both matrices.
    for distance in range(2 * guard.size):
        number = first_column(guard, [less(row, other) for row, other in zip(columns, right)])
        if number is not None:
            return (distance + 1, distance, number), 0
        right = product(guard.modulus, guard.matrix, right)
        columns = product(guard.modulus, rule.power, columns)
    return None


def less(row, other):
    """The first row less the second one."""
    return tuple([number - more for number, more in zip(row, other)])


def first_column(guard, matrix):
    """The index of the first column that is not 0 modulo M; None if all are."""
    for index, column in enumerate(transposed(matrix)):
        if any([number % guard.modulus for number in column]):
            return index
    return None

"""Whether two guards tell the same for all blocks of some lengths, or the least block that parts them."""

from guardsums.errors import BadBlock, BadSize, OtherForm
from guardsums.matrices import product
from guardsums.turns import Turns
from guardsums.values import frozen, is_integer, is_list, is_within


class Alike:
    """Both guards tell the same for all blocks of the lengths first, first + step, first + 2 * step, .."""

    def __init__(self, one, other, first, step):
        self.one = frozen(one)
        self.other = frozen(other)
        self.first = frozen(first)
        self.step = frozen(step)


class Unlike:
    """The guards tell unlike things for a plain block, no block of a lesser one of these lengths being told apart."""

    def __init__(self, one, other, first, step, block):
        self.one = frozen(one)
        self.other = frozen(other)
        self.first = frozen(first)
        self.step = frozen(step)
        self.block = frozen(block)


def plain_told(guard, block):
    """What the guard tells for a plain block, a triple (length, distance, number)."""
    if not is_plain(block, guard.width):
        raise BadBlock()
    length, distance, number = block
    turns = Turns(guard.modulus, guard.matrix)
    parts = [guard.end, turns.act(turns.raised(length), guard.start)]
    if distance is not None:
        column = tuple([row[number] for row in guard.columns])
        parts.append(turns.act(turns.raised(distance), column))
    return tuple([sum(numbers) % guard.modulus for numbers in zip(*parts)])


def is_plain(value, width):
    """Whether any value is a plain block of symbols of width numbers."""
    if not is_list(value) or len(value) != 3:
        return False
    length, distance, number = value
    if not is_integer(length) or length < 0:
        return False
    if distance is None:
        return number is None
    return is_within(distance, 0, length - 1) and is_within(number, 0, width - 1)


def alike(one, other, first=0, step=1):
    """Alike if both guards tell the same for all blocks of these lengths, otherwise Unlike."""
    check_forms(one, other, first, step)
    block = parting_block(one, other, first, step)
    if block is None:
        return Alike(one, other, first, step)
    return Unlike(one, other, first, step, block)


def is_alike(told):
    """Whether both guards of an Alike tell the same for all blocks of its lengths."""
    check_forms(told.one, told.other, told.first, told.step)
    return parting_block(told.one, told.other, told.first, told.step) is None


def is_unlike(told):
    """Whether the block of an Unlike is a plain block of one of its lengths that both guards tell apart."""
    check_forms(told.one, told.other, told.first, told.step)
    block = told.block
    if not is_plain(block, told.one.width):
        return False
    if block[0] < told.first or (block[0] - told.first) % told.step != 0:
        return False
    return plain_told(told.one, block) != plain_told(told.other, block)


def check_forms(one, other, first, step):
    """Raises OtherForm unless the guards are of one form, BadSize unless first and step tell lengths."""
    if one.modulus != other.modulus or one.size != other.size or one.width != other.width:
        raise OtherForm()
    if not is_integer(first) or first < 0:
        raise BadSize(first)
    if not is_integer(step) or step < 1:
        raise BadSize(step)


def parting_block(one, other, first, step):
    """A plain block of the least of these lengths for which some block is told apart; None if there is none."""
    zeros = first_parting_zeros(one, other, first, step)
    symbol = first_parting_symbol(one, other)
    if symbol is None:
        return None if zeros is None else (first + zeros * step, None, None)
    distance, number = symbol
    # The first of the lengths at which a symbol can stand at this distance.
    turn = 0 if distance < first else (distance - first) // step + 1
    if zeros is not None and zeros <= turn:
        return first + zeros * step, None, None
    return first + turn * step, distance, number


def first_parting_symbol(one, other):
    """The least distance at which a number of a symbol adds unlike states, and its index; None if there is none."""
    left, right = one.columns, other.columns
    # Behind 2 k equal ones all are equal, by the characteristic polynomial of both matrices.
    for distance in range(2 * one.size):
        for number in range(one.width):
            if [row[number] for row in left] != [row[number] for row in right]:
                return distance, number
        left = product(one.modulus, one.matrix, left)
        right = product(other.modulus, other.matrix, right)
    return None


def first_parting_zeros(one, other, first, step):
    """The least n for which first + n * step zeros are told apart; None if there is none."""
    left, right = told_of_zeros(one, first, step), told_of_zeros(other, first, step)
    for turn, (row, more) in enumerate(zip(left, right)):
        if row != more:
            return turn
    return None


def told_of_zeros(guard, first, step):
    """What is told of first + n * step zeros for the n from 0 to 2 k: enough, for the end adds one to 2 k."""
    turns = Turns(guard.modulus, guard.matrix)
    state, further = turns.act(turns.raised(first), guard.start), turns.raised(step)
    told = []
    for _ in range(2 * guard.size + 1):
        told.append(tuple([(number + more) % guard.modulus for number, more in zip(state, guard.end)]))
        state = turns.act(further, state)
    return told

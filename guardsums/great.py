"""What guards tell of great blocks, told by rules."""

from guardsums.errors import BadChange, BadPlace, BadSize, OtherGuard
from guardsums.tallies import Tally
from guardsums.trees import Tree
from guardsums.values import is_symbol, is_within


def told_of(guard, block):
    """What the guard tells of the block."""
    check_guard(guard, block)
    return told_whole(guard, block.tree, block.root)


def told_turned(guard, block):
    """What the guard tells of the block back to front, each symbol as it is."""
    check_guard(guard, block)
    rules = block.rules
    tree = Tree({name: rules[name][::-1] for name in rules})
    return told_whole(guard, tree, block.root)


def told_whole(guard, tree, name):
    """What the guard tells of what a name makes up."""
    return Tally(guard, tree).told(tree.pairs[name])


def told_part(guard, block, first, many):
    """What the guard tells of the block of so many symbols from first on, by itself."""
    check_guard(guard, block)
    check_stretch(block, first, many)
    return Tally(guard, block.tree).told(block.tree.between(block.root, first, many))


def told_without(guard, block, first, many):
    """What the guard tells of the block without so many symbols from first on."""
    check_guard(guard, block)
    check_stretch(block, first, many)
    return Tally(guard, block.tree).told(block.tree.without(block.root, first, many))


def told_changed(guard, block, changes):
    """What the guard tells of the block with other symbols at some places: a list of pairs (place, symbol)."""
    check_guard(guard, block)
    check_changes(block, changes)
    tally = Tally(guard, block.tree)
    powers = tally.turns.all_raised([block.size - 1 - place for place, _ in changes])
    for (place, symbol), factors in zip(changes, powers):
        old = block.tree.symbol_at(block.root, place)
        # What is told is linear: the difference adds its own.
        tally.add(tuple([(new - number) % guard.modulus for new, number in zip(symbol, old)]), 0, factors)
    return tally.told(block.tree.pairs[block.root])


def check_guard(guard, block):
    """Raises OtherGuard unless guard and block have one modulus and one width."""
    if guard.modulus != block.modulus or guard.width != block.width:
        raise OtherGuard()


def check_stretch(block, first, many):
    """Raises BadPlace or BadSize unless the block has so many symbols from first on."""
    if not is_within(first, 0, block.size):
        raise BadPlace(first)
    if not is_within(many, 0, block.size - first):
        raise BadSize(many)


def check_changes(block, changes):
    """Raises BadChange for the first element that is no change of another symbol of the block than those ahead."""
    seen = {}
    for index, change in enumerate(changes):
        if not is_change(change, block) or change[0] in seen:
            raise BadChange(index)
        seen[change[0]] = True


def is_change(value, block):
    """Whether any value is a pair, a tuple, of a place in the block and a symbol."""
    if not isinstance(value, tuple) or len(value) != 2:
        return False
    return is_within(value[0], 0, block.size - 1) and is_symbol(value[1], block.width, block.modulus)

"""Great blocks, told by rules."""

from guardsums.errors import BadPlace, BadRule, BadWidth, NoRule, Ring, TooMany
from guardsums.guards import MOST_NUMBERS, check_modulus
from guardsums.trees import Tree, first_ring
from guardsums.values import is_list, is_symbol, is_within

MOST_RULES = 300
MOST_PAIRS = 40
MOST_COUNT = 10 ** 30
MOST_LETTERS = 8
MOST_PART = 2000


class Block:
    """The block of symbols of width numbers modulo M that the rule of the name root makes up."""

    def __init__(self, modulus, width, rules, root):
        check_modulus(modulus)
        if not is_within(width, 1, MOST_NUMBERS):
            raise BadWidth(width)
        if not is_within(len(rules), 1, MOST_RULES):
            raise TooMany("rules", len(rules), MOST_RULES)
        for name in rules:
            if not is_name(name) or not is_rule(rules[name], modulus, width, rules):
                raise BadRule(name)
        self._lists = {name: tuple([tuple(pair) for pair in rules[name]]) for name in rules}
        ring = first_ring(self._lists)
        if ring is not None:
            raise Ring(ring)
        if not isinstance(root, str) or root not in self._lists:
            raise NoRule(root)
        self.modulus = modulus
        self.width = width
        self.root = root
        self.tree = Tree(self._lists)
        self.size = self.tree.sizes[root]

    def __eq__(self, other):
        return (isinstance(other, Block) and self.modulus == other.modulus and self.width == other.width
                and self._lists == other._lists and self.root == other.root)

    @property
    def rules(self):
        """A new dict from names to tuples of pairs."""
        return {name: self._lists[name] for name in self._lists}

    def symbol_of(self, place):
        """The symbol with this index."""
        if not is_within(place, 0, self.size - 1):
            raise BadPlace(place)
        return self.tree.symbol_at(self.root, place)

    def part(self, place, many):
        """The tuple of so many symbols from this index on."""
        if not is_within(many, 0, MOST_PART):
            raise TooMany("symbols", many, MOST_PART)
        if not is_within(place, 0, self.size - many):
            raise BadPlace(place)
        return tuple(self.tree.spelled(self.tree.between(self.root, place, many)))


def is_name(value):
    """Whether any value is a name: 1 to 8 capital letters from A to Z."""
    if not isinstance(value, str) or not is_within(len(value), 1, MOST_LETTERS):
        return False
    return all(["A" <= letter <= "Z" for letter in value])


def is_rule(value, modulus, width, rules):
    """Whether any value is a list of at most 40 pairs, each name in it being one of the rules'."""
    if not is_list(value) or len(value) > MOST_PAIRS:
        return False
    return all([is_pair(pair, modulus, width, rules) for pair in value])


def is_pair(value, modulus, width, rules):
    """Whether any value is a pair of a part, a symbol or the name of a rule, and a count."""
    if not is_list(value) or len(value) != 2 or not is_within(value[1], 1, MOST_COUNT):
        return False
    part = value[0]
    if isinstance(part, str):
        return is_name(part) and part in rules
    return is_symbol(part, width, modulus)

"""Point 11: blocks told by rules."""

import unittest
from unittest import mock

from guardsums import blocks
from guardsums.blocks import Block
from guardsums.errors import BadModulus, BadPlace, BadRule, BadWidth, NoRule, Ring, TooMany
from tests.support import any_values, chance

NO_INTEGERS = [value for value in any_values() if not isinstance(value, int)] + [True, False, 1.0, b"1"]
GREAT = 10 ** 30


def good():
    """New rules of symbols of two numbers modulo 5."""
    return {"B": [((1, 2), 3), ("A", 2)], "A": [((0, 4), 1), ((3, 3), 2)], "NONE": [], "TOP": [("NONE", 7), ["B", 2]]}


def name_of(number):
    """A name for each number."""
    return "".join(chr(65 + number // 26 ** place % 26) for place in (2, 1, 0))


def spelled(rules, name):
    """All symbols that a name makes up, by the words of the document."""
    symbols = []
    for part, count in rules[name]:
        symbols += (spelled(rules, part) if isinstance(part, str) else [part]) * count
    return symbols


def random_rules(source, modulus, width, many):
    """Rules each of which has parts that stand ahead of it, in an order of their own."""
    rules = {}
    for number in range(many):
        pairs = []
        for _ in range(source.randrange(5)):
            part = tuple(source.randrange(modulus) for _ in range(width))
            if number and source.randrange(3):
                part = name_of(source.randrange(number))
            pairs.append((part, source.choice([1, 1, 2, 3])))
        rules[name_of(number)] = pairs
    keys = sorted(rules, key=lambda name: source.random())
    return {key: rules[key] for key in keys}


class Blocks(unittest.TestCase):
    def raises(self, error, fields, call, *arguments):
        with self.assertRaises(error) as caught:
            call(*arguments)
        for name, value in fields.items():
            told = getattr(caught.exception, name)
            self.assertTrue(told is value or (type(told) is type(value) and told == value), (name, told, value))


class Making(Blocks):
    def test_interface(self):
        self.assertEqual(Block.__module__, "guardsums.blocks")
        self.assertIs(blocks.Block, Block)
        for name in ("symbol_of", "part", "rules", "__eq__", "__init__"):
            self.assertIn(name, vars(Block))

    def test_document(self):
        block = Block(10, 1, {"A": [((1,), GREAT), ((5,), 1)]}, "A")
        self.assertEqual([block.size == GREAT + 1, block.symbol_of(GREAT), block.part(GREAT - 1, 2)],
                         [True, (5,), ((1,), (5,))])

    def test_attributes(self):
        block = Block(5, 2, good(), "TOP")
        self.assertEqual([block.modulus, block.width, block.root, block.size], [5, 2, "TOP", 18])
        wanted = {"B": (((1, 2), 3), ("A", 2)), "A": (((0, 4), 1), ((3, 3), 2)), "NONE": (),
                  "TOP": (("NONE", 7), ("B", 2))}
        self.assertEqual(block.rules, wanted)
        self.assertEqual(list(block.rules), list(wanted))
        for pairs in block.rules.values():
            self.assertEqual({type(pairs), *(type(pair) for pair in pairs)}, {tuple})

    def test_rules_are_new_with_each_access(self):
        block = Block(5, 2, good(), "TOP")
        rules = block.rules
        self.assertIsNot(rules, block.rules)
        rules["A"] = ()
        del rules["B"]
        self.assertEqual(block.rules["A"], (((0, 4), 1), ((3, 3), 2)))
        self.assertEqual((block.size, block.part(0, 18)), (18, tuple(spelled(good(), "TOP"))))

    def test_dicts_and_lists_changed_afterwards(self):
        rules = good()
        block = Block(5, 2, rules, "TOP")
        self.assertEqual(rules, good())
        rules["TOP"][1][1] = 9
        rules["A"].append(((1, 1), 1))
        rules["C"] = []
        self.assertTrue(block == Block(5, 2, good(), "TOP"))
        self.assertEqual((block.size, block.part(0, 18)), (18, tuple(spelled(good(), "TOP"))))

    def test_empty_block(self):
        for rules in ({"A": []}, {"A": [("B", GREAT)], "B": ()}, {"A": [("B", 2), ("B", 1)], "B": [("C", 1)], "C": []}):
            block = Block(7, 3, rules, "A")
            self.assertEqual((block.size, block.part(0, 0)), (0, ()))
            for place in (0, 1, -1):
                self.raises(BadPlace, {"place": place}, block.symbol_of, place)
            self.raises(BadPlace, {"place": 0}, block.part, 0, 1)
            self.raises(BadPlace, {"place": 1}, block.part, 1, 0)

    def test_equal(self):
        one = Block(5, 2, good(), "TOP")
        same = {name: tuple(map(list, pairs)) for name, pairs in reversed(list(good().items()))}
        self.assertTrue(one == Block(5, 2, same, "TOP"))
        self.assertFalse(one != Block(5, 2, same, "TOP"))
        other = good()
        other["NONE"] = [((0, 0), 1)]
        more = good()
        more["C"] = []
        count = good()
        count["A"][0] = ((0, 4), 2)
        for block in (Block(6, 2, good(), "TOP"), Block(5, 2, good(), "B"), Block(5, 2, other, "TOP"),
                      Block(5, 2, more, "TOP"), Block(5, 2, count, "TOP")):
            self.assertTrue(one != block)
            self.assertFalse(one == block)
        self.assertFalse(Block(5, 2, {"A": []}, "A") == Block(5, 3, {"A": []}, "A"))
        # The same symbols by other rules are another block.
        self.assertFalse(Block(5, 1, {"A": [((1,), 2)]}, "A") == Block(5, 1, {"A": [((1,), 1), ((1,), 1)]}, "A"))

    def test_equal_to_blocks_alone(self):
        block = Block(5, 2, good(), "TOP")
        for value in any_values() + [good(), mock.ANY]:
            self.assertFalse(block == value)


class Wrong(Blocks):
    def test_modulus(self):
        for value in NO_INTEGERS + [1, 0, -2, 10 ** 18 + 1, 10 ** 39]:
            self.raises(BadModulus, {"number": value}, Block, value, None, {}, None)
        self.assertEqual(Block(10 ** 18, 1, {"A": [((10 ** 18 - 1,), 1)]}, "A").size, 1)

    def test_width(self):
        for value in NO_INTEGERS + [0, -1, 17, 10 ** 39]:
            self.raises(BadWidth, {"width": value}, Block, 5, value, {}, None)
        for width in (1, 16):
            self.assertEqual(Block(5, width, {"A": [((4,) * width, 2)]}, "A").part(0, 2), ((4,) * width,) * 2)

    def test_how_many_rules(self):
        self.raises(TooMany, {"what": "rules", "many": 0, "most": 300}, Block, 5, 1, {}, None)
        for many in (301, 400):
            rules = {name_of(number): None for number in range(many)}
            self.raises(TooMany, {"what": "rules", "many": many, "most": 300}, Block, 5, 1, rules, None)
        self.assertEqual(Block(5, 1, {name_of(number): [((1,), 2)] for number in range(300)}, "AAA").size, 2)

    def test_names(self):
        for name in ("", "a", "Aa", "A1", "A ", "ABCDEFGHI", "\u00c4", "\u0391", "A\n", "_", "[", "@", "\u216b"):
            self.raises(BadRule, {"name": name}, Block, 5, 1, {"A": [], name: [], "B": None}, None)
        for name in (None, True, 0, 7, (), ("A",), b"A", 1.5):
            self.raises(BadRule, {"name": name}, Block, 5, 1, {"A": [], name: []}, "A")
        for name in ("A", "Z", "ABCDEFGH", "QZ"):
            self.assertEqual(Block(5, 1, {name: []}, name).root, name)

    def test_lists(self):
        symbol = (1, 2)
        wrong = [value for value in any_values() if value not in ([], ())] + [
            [(symbol, 1)] * 41, [symbol], [(symbol,)], [(symbol, 1, 1)], [(symbol, 0)], [(symbol, -1)], "A",
            [(symbol, GREAT + 1)], [(symbol, True)], [(symbol, None)], [(symbol, "1")], [([1, 2], 1)], [((1,), 1)],
            [((1, 2, 3), 1)], [((1, 5), 1)], [((-1, 0), 1)], [((True, 0), 1)], [((None, 0), 1)], [("C", 1)],
            [("a", 1)], [("", 1)], [(None, 1)], [(7, 1)], ["A1"], [{0: symbol, 1: 1}], {0: (symbol, 1)},
            [(symbol, 1), None], [((), 1)], [(("A",), 1)]]
        for value in wrong:
            self.raises(BadRule, {"name": "B"}, Block, 5, 2, {"A": [], "B": value, "D": None}, None)
        for value in ([], (), [(symbol, 1)] * 40, [[symbol, GREAT]], ((symbol, 1), ["A", 1]), [("A", GREAT)]):
            self.assertEqual(Block(5, 2, {"A": [], "B": value}, "A").size, 0)

    def test_first_in_the_order_of_the_dict(self):
        self.raises(BadRule, {"name": "Z"}, Block, 5, 1, {"B": [], "Z": None, "A": None}, "A")
        self.raises(BadRule, {"name": "A"}, Block, 5, 1, {"B": [], "A": None, "Z": None, 3: None}, "A")
        self.raises(BadRule, {"name": 3}, Block, 5, 1, {"B": [], 3: [], "A": None}, "A")
        # A key that is no name is none that a list may have, either.
        self.raises(BadRule, {"name": "A"}, Block, 5, 1, {"A": [("b", 1)], "b": []}, "A")

    def test_ring(self):
        for rules, name in (
            ({"A": [("A", 1)]}, "A"), ({"B": [("A", 1)], "A": [("B", 2)]}, "A"),
            ({"A": [("C", 1)], "C": [("B", 1)], "B": [("C", 3)]}, "B"),
            ({"A": [("B", 1)], "B": [("C", 1), ("B", 1)], "C": [("C", 1)]}, "B"),
            ({"Z": [("Z", 1)], "A": [((1,), 1)], "AB": [("A", 1), ("Z", 1)]}, "Z"),
            ({"TOP": [], "X": [("Y", 1)], "Y": [("ZA", 1)], "ZA": [("X", 1)], "B": [("X", 1)]}, "X"),
        ):
            # NoRule would be due behind it.
            self.raises(Ring, {"name": name}, Block, 5, 1, rules, None)
        self.raises(BadRule, {"name": "B"}, Block, 5, 1, {"A": [("A", 1)], "B": None}, None)

    def test_greatest_ring(self):
        rules = {name_of(number): [(name_of((number + 1) % 300), 1)] * 40 for number in range(300)}
        self.raises(Ring, {"name": "AAA"}, Block, 5, 1, rules, "AAA")
        rules["AAA"] = []
        rules["ALN"] = [("ALM", 1)]
        self.raises(Ring, {"name": "ALM"}, Block, 5, 1, rules, "AAA")

    def test_root(self):
        for value in any_values() + ["B", "a", "AA", ("A",), b"A"]:
            self.raises(NoRule, {"root": value}, Block, 5, 1, {"A": []}, value)

    def test_place(self):
        block = Block(5, 2, good(), "TOP")
        for value in NO_INTEGERS + [-1, 18, 19, GREAT]:
            self.raises(BadPlace, {"place": value}, block.symbol_of, value)
        great = Block(10, 1, {"A": [((1,), GREAT)], "B": [("A", GREAT)]}, "B")
        for value in (GREAT ** 2, -1):
            self.raises(BadPlace, {"place": value}, great.symbol_of, value)
        self.assertEqual([great.symbol_of(0), great.symbol_of(GREAT ** 2 - 1)], [(1,), (1,)])

    def test_part(self):
        block = Block(5, 2, {"A": [((1, 1), 1999), ((2, 2), 5)]}, "A")
        for value in NO_INTEGERS + [-1, 2001, GREAT]:
            self.raises(TooMany, {"what": "symbols", "many": value, "most": 2000}, block.part, None, value)
        for many in (0, 1, 4, 2000):
            for value in NO_INTEGERS + [-1, 2005 - many, GREAT]:
                self.raises(BadPlace, {"place": value}, block.part, value, many)
            self.assertEqual(len(block.part(2004 - many, many)), many)
            self.assertEqual(len(block.part(0, many)), many)
        self.assertEqual(block.part(0, 2000), ((1, 1),) * 1999 + ((2, 2),))
        self.raises(BadPlace, {"place": 0}, Block(5, 2, good(), "TOP").part, 0, 19)


class Symbols(Blocks):
    def test_against_all_symbols(self):
        source = chance(1)
        for turn in range(60):
            rules = random_rules(source, 5, 2, 1 + turn % 7)
            for root in rules:
                symbols = spelled(rules, root)
                if len(symbols) > 400:
                    continue
                block = Block(5, 2, rules, root)
                self.assertEqual(block.size, len(symbols))
                self.assertEqual([block.symbol_of(place) for place in range(len(symbols))], symbols)
                for _ in range(20):
                    place = source.randrange(len(symbols) + 1)
                    many = source.randrange(len(symbols) - place + 1)
                    self.assertEqual(block.part(place, many), tuple(symbols[place:place + many]))
                self.assertEqual(block.part(0, len(symbols)), tuple(symbols))

    def test_great_counts(self):
        rules = {"A": [((1,), GREAT), ("B", GREAT), ((4,), 1)], "B": [((2,), 1), ((3,), GREAT)]}
        block = Block(5, 1, rules, "A")
        size = GREAT + 1
        self.assertEqual(block.size, GREAT + GREAT * size + 1)
        for place, symbol in ((0, 1), (GREAT - 1, 1), (GREAT, 2), (GREAT + 1, 3), (GREAT + GREAT, 3),
                              (GREAT + size, 2), (GREAT + size * (GREAT - 1), 2), (GREAT + size * GREAT - 1, 3),
                              (GREAT + size * GREAT, 4)):
            self.assertEqual(block.symbol_of(place), (symbol,), place)
        self.assertEqual(block.part(GREAT + 5 * size - 2, 4), ((3,), (3,), (2,), (3,)))
        self.assertEqual(block.part(block.size - 2, 2), ((3,), (4,)))
        self.assertEqual(block.part(GREAT - 1000, 2000), ((1,),) * 1000 + ((2,),) + ((3,),) * 999)

    def test_any_depth(self):
        names = [name_of(number) for number in range(300)]
        rules = {names[0]: [((1,), 1), ((2,), 1)]}
        for one, other in zip(names, names[1:]):
            rules[other] = [(one, 2)]
        block = Block(5, 1, rules, names[-1])
        self.assertEqual(block.size, 2 ** 300)
        self.assertEqual([block.symbol_of(place) for place in (0, 1, 2 ** 299, 2 ** 300 - 1)], [(1,), (2,), (1,), (2,)])
        self.assertEqual(block.part(2 ** 299 - 999, 2000), ((2,), (1,)) * 1000)
        for name in names[1:]:
            rules[name] = [(rules[name][0][0], GREAT), ((3,), 1)]
        block = Block(5, 1, rules, names[-1])
        self.assertEqual([block.symbol_of(place) for place in (0, 1, block.size - 1)], [(1,), (2,), (3,)])
        self.assertEqual(block.part(block.size - 3, 3), ((3,), (3,), (3,)))
        self.assertGreater(block.size, GREAT ** 299)

    def test_many_empty_parts_between(self):
        names = [name_of(number) for number in range(299)]
        rules = {names[0]: [((1,), 3)], "NONE": []}
        for one, other in zip(names, names[1:]):
            rules[other] = [("NONE", GREAT)] * 39 + [(one, GREAT)]
        block = Block(5, 1, rules, names[-1])
        self.assertEqual(block.part(block.size // 7, 2000), ((1,),) * 2000)

    def test_equal_calls(self):
        block = Block(5, 2, good(), "TOP")
        self.assertEqual(block.part(2, 9), block.part(2, 9))
        self.assertTrue(block == Block(5, 2, good(), "TOP"))


if __name__ == "__main__":
    unittest.main()

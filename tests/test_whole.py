"""Points 1 and 2: what the document promises over the whole program."""

import importlib
import inspect
import unittest

from guardsums import errors
from guardsums.alike import Alike, Unlike, alike, is_alike, is_unlike, plain_told
from guardsums.blocks import Block
from guardsums.errors import SumsError
from guardsums.fitting import Fit, NoFit, count_fits, fit, is_fit, is_no_fit, remainders
from guardsums.great import told_changed, told_of, told_part, told_turned, told_without
from guardsums.guards import Guard
from guardsums.howell import (Faithful, Lost, NoWay, Ways, combination, count_ways, howell, is_faithful, is_lost,
                              is_no_way, is_ways, judge_kernel, solutions, span_size)
from guardsums.late import late
from guardsums.makers import behind_zeros, digits, mirrored, packed, pair, plain, remainder, table, turned
from guardsums.matrices import applied, identity, power, product, undone
from guardsums.mending import (Change, Cut, Fails, Fits, Join, changed, cut, is_fails, is_fits, joined, judge_rule,
                               right_change, right_cut, right_join)
from guardsums.orders import Order, is_order, line_order, order
from guardsums.putin import NeverPutIn, PutIn, is_never_put_in, is_put_in, put_in
from guardsums.ratios import Ratio
from guardsums.residues import inverse, primes
from guardsums.unseen import (Seen, Unseen, chance, first_pair, is_seen, is_unseen, judge_change, least_exchange,
                              least_pair, mixing, safe_burst, unseen_number)
from guardsums.weights import first_length, least_weight, weights
from guardsums.wishes import Granted, Vain, count_granted, is_granted, is_vain, wish
from tests.support import any_values

GREAT = 10 ** 30
# What the interface lists: for each file the names, with their arguments.
INTERFACE = {
    "errors": {"SumsError": None, "BadModulus": "number", "NotUndone": "", "TooMany": "what many most", "BadKind": "kind",
               "BadSize": "size", "BadWidth": "width", "BadOver": "", "OtherForm": "", "BadBlock": "", "BadRule": "name",
               "BadSymbol": "index", "BadMatrix": "index", "BadColumns": "index", "BadStart": "index", "BadEnd": "index",
               "BadState": "index", "BadPolynomial": "polynomial", "BadNumber": "number", "BadMending": "", "Ring": "name",
               "NoRule": "root", "BadPlace": "place", "BadChange": "index", "BadTold": "", "BadSample": "index",
               "OtherGuard": ""},
    "ratios": {"Ratio": "number over"},
    "residues": {"inverse": "number modulus", "primes": "number"},
    "matrices": {"product": "modulus one other", "applied": "modulus matrix row", "identity": "size",
                 "power": "modulus matrix many", "undone": "modulus matrix"},
    "howell": {"howell": "modulus rows width", "span_size": "modulus rows width", "combination": "modulus rows row",
               "solutions": "modulus matrix wish", "Ways": "modulus matrix wish one kernel",
               "count_ways": "modulus matrix wish", "NoWay": "modulus matrix wish left", "is_ways": "ways",
               "is_no_way": "no_way", "judge_kernel": "modulus matrix", "Faithful": "modulus matrix back",
               "Lost": "modulus matrix row", "is_faithful": "faithful", "is_lost": "lost"},
    "guards": {"Guard": "modulus matrix columns start end"},
    "makers": {"remainder": "width polynomial start end", "plain": "modulus", "digits": "modulus base",
               "pair": "modulus first", "packed": "guard times", "mirrored": "guard", "turned": "guard matrix",
               "behind_zeros": "guard many", "table": "guard"},
    "blocks": {"Block": "modulus width rules root"},
    "great": {"told_of": "guard block", "told_turned": "guard block", "told_part": "guard block first many",
              "told_without": "guard block first many", "told_changed": "guard block changes"},
    "alike": {"plain_told": "guard block", "alike": "one other first step", "Alike": "one other first step",
              "Unlike": "one other first step block", "is_alike": "told", "is_unlike": "told"},
    "orders": {"order": "modulus matrix row", "line_order": "prime matrix row", "Order": "number primes",
               "is_order": "modulus matrix row told"},
    "unseen": {"mixing": "guard kind size", "judge_change": "guard kind size", "Seen": "guard kind size back",
               "Unseen": "guard kind size change", "is_seen": "seen", "is_unseen": "unseen", "safe_burst": "guard",
               "least_pair": "guard", "least_exchange": "guard", "first_pair": "guard most",
               "unseen_number": "guard size", "chance": "guard size"},
    "mending": {"Join": "power before after", "Change": "power columns", "Cut": "power after",
                "joined": "guard rule first second length", "changed": "guard rule before distance old new",
                "cut": "guard rule whole second length", "right_join": "guard", "right_change": "guard",
                "right_cut": "guard", "judge_rule": "guard rule", "Fits": "guard rule", "Fails": "guard rule block length",
                "is_fits": "told", "is_fails": "told"},
    "putin": {"put_in": "guard symbol", "PutIn": "guard block symbol", "NeverPutIn": "guard symbol left",
              "is_put_in": "told", "is_never_put_in": "told"},
    "weights": {"weights": "guard length most", "least_weight": "guard length", "first_length": "guard weight"},
    "wishes": {"wish": "guard block places wished", "Granted": "guard block places wished symbols kernel",
               "count_granted": "guard block places wished", "Vain": "guard block places wished left",
               "is_granted": "granted", "is_vain": "vain"},
    "fitting": {"fit": "guard samples", "Fit": "guard samples start end kernel", "count_fits": "guard samples",
                "NoFit": "guard samples left", "is_fit": "fit", "is_no_fit": "no_fit", "remainders": "width samples"},
    "late": {"late": "guard most bits"},
}
METHODS = {"ratios": {"Ratio": "is_less divided __add__ __sub__ __mul__ __neg__ __abs__ __eq__ __str__"},
           "guards": {"Guard": "told behind __eq__"}, "blocks": {"Block": "symbol_of part __eq__"}}
RESULTS = (Ways, NoWay, Faithful, Lost, Alike, Unlike, Order, Seen, Unseen, Fits, Fails, PutIn, NeverPutIn, Granted, Vain,
           Fit, NoFit)
TURN = ((0, 0, 1), (1, 0, 1), (0, 1, 0))


def described(value):
    """A value in plain words: two of them are the same just if they are told so."""
    if isinstance(value, (list, tuple)):
        return (type(value).__name__, [described(item) for item in value])
    if isinstance(value, dict):
        return ("dict", [(described(key), described(value[key])) for key in value])
    if isinstance(value, Block):
        return ("Block", value.modulus, value.width, described(value.rules), value.root, value.size)
    if hasattr(value, "__dict__"):
        return (type(value).__name__, sorted((name, described(field)) for name, field in vars(value).items()))
    return (type(value).__name__, value)


def as_tuples(value):
    """The value with tuples in the place of lists, at every depth."""
    if isinstance(value, (list, tuple)):
        return tuple(as_tuples(item) for item in value)
    if isinstance(value, dict):
        return {key: as_tuples(value[key]) for key in value}
    return value


def has_list(value):
    """Whether a list stands in a value at some depth."""
    if isinstance(value, list):
        return True
    if isinstance(value, tuple):
        return any(has_list(item) for item in value)
    if isinstance(value, dict):
        return any(has_list(item) for item in value.values())
    return False


def judged(call, function, *arguments):
    """What a function judges of what a call returned."""
    return function(call(*arguments))


def wide():
    return Guard(12, [[1, 2], [3, 1]], [[1, 0], [3, 4]], [5, 6], [7, 8])


def great():
    return Block(7, 1, {"A": [["B", GREAT], ((5,), 1)], "B": [((1,), 3), [(2,), 4]]}, "A")


def calls():
    """Calls of all functions and methods, with new arguments; lists stand wherever the document tells of lists."""
    two, one, crc, block = pair(7, 3), plain(10), remainder(8, 7, 5, 9), great()
    samples = [([], (3,)), ([(1,)], (4,))]
    wrong = [([], (3,)), ([(1,)], (5,))]
    fails = Join([[1, 0], [2, 1]], [-3, 0], [0, 0])
    return [
        (inverse, 7, 10), (primes, 360), (product, 7, TURN, TURN), (applied, 7, TURN, (1, 2, 3)), (identity, 3),
        (power, 7, TURN, GREAT), (undone, 7, TURN), (howell, 12, [(2, 3), (4, 5)], 2), (span_size, 12, [(2, 3), (4, 5)], 2),
        (combination, 12, [(2, 3), (1, 5)], (3, 8)), (solutions, 12, ((2, 3),), (1,)), (solutions, 4, ((2,),), (1,)),
        (count_ways, 12, ((2, 3),), (1,)), (judged, solutions, is_ways, 12, ((2, 3),), (1,)),
        (judge_kernel, 12, ((8,), (3,))), (judge_kernel, 4, ((2,),)), (Guard, 10, [[3]], [[1, 7]], [2], [5]),
        (Guard.told, wide(), [(1, 2), (3, 4)]), (Guard.behind, wide(), [(1, 2), (3, 4)], (0, 1)), (remainder, 8, 7, 1, 2),
        (digits, 97, 10), (pair, 7, 3), (packed, wide(), 3), (mirrored, wide()), (turned, wide(), [[1, 2], [0, 1]]),
        (behind_zeros, wide(), GREAT), (table, two), (Block, 7, 1, {"A": [["B", 2]], "B": []}, "A"),
        (Block.symbol_of, block, 5), (Block.part, block, 5, 9), (told_of, two, block), (told_turned, two, block),
        (told_part, two, block, 3, GREAT), (told_without, two, block, 3, GREAT), (told_changed, two, block, [(0, (6,))]),
        (plain_told, two, [5, 3, 0]), (alike, two, pair(7), 3, 4), (alike, two, two), (judged, alike, is_unlike, two, pair(7)),
        (judged, alike, is_alike, two, two), (order, 2, TURN, (1, 0, 0)), (line_order, 7, ((3,),), (1,)),
        (is_order, 2, TURN, (1, 0, 0), Order(7, [7])), (mixing, wide(), "burst", 3), (judge_change, two, "burst", 2),
        (judge_change, wide(), "pair", 3), (judged, judge_change, is_seen, two, "burst", 2),
        (judged, judge_change, is_unseen, wide(), "exchange", 3), (safe_burst, crc), (least_pair, crc),
        (least_exchange, wide()), (first_pair, two, 50), (unseen_number, wide(), 5), (chance, wide(), 5),
        (Join, [[1]], [2], [3]), (Change, [[1]], [[2, 3]]), (Cut, [[1]], [2]),
        (joined, two, right_join(two), [1, 2], [3, 4], 5), (changed, two, right_change(two), [1, 2], 3, (4,), (5,)),
        (cut, two, right_cut(two), [1, 2], [3, 4], 5), (right_join, two), (judge_rule, two, right_join(two)),
        (judge_rule, two, fails), (judged, judge_rule, is_fits, two, right_cut(two)), (judged, judge_rule, is_fails, two, fails),
        (put_in, two, (0,)), (put_in, one, (3,)), (put_in, wide()), (judged, put_in, is_put_in, two, (0,)),
        (judged, put_in, is_never_put_in, one, (3,)), (weights, two, GREAT, 5), (least_weight, two, 50), (first_length, two, 2),
        (wish, two, block, [0, 5], (1, 2)), (wish, Guard(7, [[1]], [[0]], [0], [0]), block, [0, 5], (1,)),
        (count_granted, two, block, [0, 5], (1, 2)), (judged, wish, is_granted, two, block, [0, 5], (1, 2)),
        (judged, wish, is_vain, Guard(7, [[1]], [[0]], [0], [0]), block, [0, 5], (1,)), (fit, one, samples), (fit, one, wrong),
        (count_fits, one, samples), (judged, fit, is_fit, one, samples), (judged, fit, is_no_fit, one, wrong),
        (remainders, 1, [([(1,)], (1,)), ([], (0,))]), (late, two, 5, 32),
    ]


class Interface(unittest.TestCase):
    def test_names_and_arguments(self):
        for file, names in INTERFACE.items():
            module = importlib.import_module("guardsums." + file)
            for name, arguments in names.items():
                found = getattr(module, name)
                self.assertEqual(found.__module__, module.__name__)
                if arguments is not None and not (file == "errors" and arguments == ""):
                    self.assertEqual(" ".join(inspect.signature(found).parameters), arguments, name)

    def test_methods(self):
        for file, classes in METHODS.items():
            module = importlib.import_module("guardsums." + file)
            for name, methods in classes.items():
                for method in methods.split():
                    self.assertIn(method, vars(getattr(module, name)))

    def test_errors_stand_directly_below(self):
        for name in INTERFACE["errors"]:
            found = getattr(errors, name)
            self.assertEqual(found.__bases__, (ValueError,) if found is SumsError else (SumsError,))

    def test_defaults(self):
        self.assertTrue(remainder(3, 3) == remainder(3, 3, 0, 0))
        self.assertTrue(pair(7) == pair(7, 0))
        self.assertEqual(described(alike(plain(7), pair(7).__class__(7, [[1]], [[1]], [0], [0]))),
                         described(alike(plain(7), plain(7), 0, 1)))
        self.assertEqual(described(put_in(plain(7))), described(put_in(plain(7), None)))
        self.assertTrue(Ratio(3) == Ratio(3, 1))


class Calls(unittest.TestCase):
    def test_all_functions_are_called(self):
        called = {getattr(function, "__name__", None) for call in calls() for function in call if callable(function)}
        for file, names in INTERFACE.items():
            for name in names:
                made = name[0].isupper() or name in ("is_faithful", "is_lost", "is_no_way", "plain", "right_change", "right_cut")
                self.assertTrue(made or name in called, name)

    def test_equal_calls(self):
        for one, other in zip(calls(), calls()):
            self.assertEqual(described(one[0](*one[1:])), described(other[0](*other[1:])), one[0])
            # Once more with the same objects.
            self.assertEqual(described(one[0](*one[1:])), described(other[0](*other[1:])), one[0])

    def test_arguments_are_as_before(self):
        for call in calls():
            ahead = described(call[1:])
            call[0](*call[1:])
            self.assertEqual(described(call[1:]), ahead, call[0])

    def test_tuples_in_the_place_of_lists(self):
        for one, other in zip(calls(), calls()):
            told = one[0](*one[1:])
            self.assertEqual(described(other[0](*as_tuples(other[1:]))), described(told), one[0])

    def test_nothing_is_a_list(self):
        for call in calls():
            told = call[0](*call[1:])
            self.assertFalse(has_list(told), call[0])
            if hasattr(told, "__dict__"):
                for name, field in vars(told).items():
                    if not name.startswith("_") and name != "tree":
                        self.assertFalse(has_list(field), (call[0], name))

    def test_fields_are_of_their_own(self):
        # A dict that is returned is a new one each time; it may be changed without harm.
        block = great()
        rules = block.rules
        rules["A"] = ()
        rules["C"] = ()
        self.assertEqual(described(block), described(great()))
        self.assertIsNot(block.rules, block.rules)
        self.assertTrue(block == great())


class Results(unittest.TestCase):
    def test_fields_as_they_are(self):
        for found in RESULTS:
            names = list(inspect.signature(found).parameters)
            for value in any_values():
                told = found(*[value for _ in names])
                self.assertEqual(sorted(vars(told)), sorted(names))
                for name in names:
                    self.assertEqual(described(getattr(told, name)), described(as_tuples(value)), (found, name))

    def test_fields_are_copies(self):
        for found in RESULTS:
            names = list(inspect.signature(found).parameters)
            values = [[at, [at, {"A": [at]}]] for at, _ in enumerate(names)]
            told = found(*values)
            ahead = described(told)
            for value in values:
                value[1][1]["A"].append(1)
                value[1].append(2)
                value.append(3)
            self.assertEqual(described(told), ahead)

    def test_equal_to_none_of_another_class(self):
        for one in (Ratio(3, 7), plain(10), great()):
            for other in any_values() + [plain(11), Ratio(2, 3), object(), "1/2", 10]:
                self.assertIs(one == other, False)
                self.assertIs(other == one, False)
                self.assertIs(one != other, True)
        self.assertTrue(plain(10) == plain(10) and great() == great())


if __name__ == "__main__":
    unittest.main()

"""[0.1] to [0.5] and [0.15] over the whole program: what holds for each function of the interface."""

import copy
import importlib
import random
import unittest

from hardbits.core.cores import core_answer, is_core_answer
from hardbits.errors import HardError, InvalidNumber
from hardbits.use.bench import Bench
from hardbits.words.bits import bits_excess, predictor_sum
from hardbits.words.strings import led_back, string_excess
from tests.calls import all_calls
from tests.support import Case, DEEP, DEEP_DICT, DEEP_LIST, HUGE, JUNK, LONG, nested
from tests.test_form import INTERFACE

JUDGES = ("is_", "are_", "has_", "do_", "does_", "takes")
# Values of which wrong arguments can be built: at most eight deep, with integers of at most 100 digits.
LEAVES = (None, True, False, 0, 1, -1, 2, 7, 13, 33, 10 ** 9, HUGE, -HUGE, "", "0", "core", "1/2\n", "a\nb", "x" * 4000, (), [], {}, (0,), (1,), (1, 2), (1, (1,)), [1, 2],
          ((0, 1), (1, 0)), {0: 1}, {"a": (1,)}, {(0, 1): 1}, nested(7), ([],), ({},), (None,), (True, True), ((1, 0), [1]), HardError("e"), InvalidNumber(3), Bench(3))


def function_of(module, name):
    return getattr(importlib.import_module(module), name)


def is_judge(name):
    return name.startswith(JUDGES)


def parameters_of(call):
    return call.__code__.co_varnames[:call.__code__.co_argcount]


def leaves(value, way=()):
    """The ways to all members of a value, and these."""
    yield way, value
    if isinstance(value, tuple):
        for k, member in enumerate(value):
            yield from leaves(member, way + (k,))
    if isinstance(value, dict):
        for key, member in value.items():
            yield from leaves(member, way + (key,))


def with_leaf(value, way, leaf):
    """The value with another member at the way."""
    if not way:
        return leaf
    if isinstance(value, dict):
        return {**value, way[0]: with_leaf(value[way[0]], way[1:], leaf)}
    return value[:way[0]] + (with_leaf(value[way[0]], way[1:], leaf),) + value[way[0] + 1:]


def members(value):
    """All that stands in a value, itself and keys of dicts too."""
    yield value
    if isinstance(value, dict):
        for key in value:
            yield from members(key)
            yield from members(value[key])
    if isinstance(value, (tuple, list)):
        for member in value:
            yield from members(member)


class Whole(Case):

    def calls(self):
        for module, name, arguments in all_calls():
            yield name, function_of(module, name), arguments

    def test_each_function_is_called(self):
        wanted = {(module, entry.partition("(")[0]) for module, text in INTERFACE.items() for entry in text.split() if module != "hardbits.errors"}
        self.assertEqual({(module, name) for module, name, _ in all_calls()} | {("hardbits.use.bench", "Bench")}, wanted)

    def test_equal_calls_return_equal_results(self):
        for name, call, arguments in self.calls():
            before = copy.deepcopy(arguments)
            first, second = call(*arguments), call(*copy.deepcopy(arguments))
            self.assertEqual(repr(first), repr(second), name)
            self.assertEqual(repr(arguments), repr(before), name)

    def test_results_are_plain(self):
        for name, call, arguments in self.calls():
            result = call(*arguments)
            if is_judge(name):
                self.assertIs(result, True if name not in ("does_close", "are_even") else False, name)
                continue
            for member in members(result):
                self.assertIn(type(member), (int, str, tuple, dict, type(None)), name)
                if isinstance(member, dict):
                    self.assertEqual(list(member), sorted(member), name)

    def test_true_is_no_integer(self):
        """Each 0 or 1 of the arguments, turned into False or True, is refused; in a judged value it makes it a wrong one."""
        count = 0
        for name, call, arguments in self.calls():
            for way, leaf in leaves(arguments):
                if type(leaf) is int and leaf in (0, 1):
                    count += 1
                    self.check_refused(name, call, with_leaf(arguments, way, leaf == 1), way[0])
        self.assertGreater(count, 1500)

    def test_lists_are_no_tuples(self):
        """Lists for tuples are refused everywhere."""
        for name, call, arguments in self.calls():
            for way, leaf in leaves(arguments):
                if way and isinstance(leaf, tuple):
                    self.check_refused(name, call, with_leaf(arguments, way, list(leaf)), way[0])

    def check_refused(self, name, call, arguments, k):
        """Checks that the call is refused, or the value judged wrong if that is what was changed."""
        judged = is_judge(name) and k == len(arguments) - 1 and parameters_of(call)[-1] in ("value", "paper")
        if judged:
            self.refused(call, arguments[:-1], arguments[-1])
        else:
            with self.assertRaises(HardError, msg=(name, arguments)):
                call(*arguments)

    def outcome(self, name, call, arguments):
        """What comes of a call: its result, or the error; no error but those of the package is raised."""
        before = repr(arguments)
        try:
            result = ("result", repr(call(*arguments)))
        except HardError as error:
            result = (type(error).__name__, repr(vars(error)))
        self.assertEqual(repr(arguments), before, name)
        return result

    def test_wrong_arguments_raise_errors_of_the_package_alone(self):
        """Whatever stands in the place of an argument, or of a member of it."""
        source = random.Random(1)
        for name, call, arguments in self.calls():
            ways = [way for way, _ in leaves(arguments) if way]
            for way in [way for way in ways if len(way) == 1] + source.sample(ways, min(12, len(ways))):
                for leaf in LEAVES:
                    spoilt = with_leaf(arguments, way, leaf)
                    found = self.outcome(name, call, spoilt)
                    self.assertEqual(self.outcome(name, call, spoilt), found, name)

    def test_the_first_wrong_argument_tells_the_error(self):
        """With all later arguments wrong too, the error is the same."""
        for name, call, arguments in self.calls():
            for k in range(len(arguments)):
                for leaf in (None, (), HUGE, [], Bench(1)):
                    alone = arguments[:k] + (leaf,) + arguments[k + 1:]
                    found = self.outcome(name, call, alone)
                    if found[0] in ("result", "TooMany", "Refused") or not self.is_own(found, leaf):
                        continue
                    for later in (None, DEEP, HUGE):
                        everything = arguments[:k] + (leaf,) + (later,) * (len(arguments) - k - 1)
                        self.assertEqual(self.outcome(name, call, everything)[0], found[0], (name, k, leaf))

    def is_own(self, found, leaf):
        """Whether the error is of this argument: one that keeps a value keeps this one."""
        return found[0] != "InvalidNumber" or found[1] == repr({"given": leaf})

    def test_judges_raise_nothing_for_values(self):
        for name, call, arguments in self.calls():
            if is_judge(name) and parameters_of(call)[-1] in ("value", "paper"):
                ways = [way for way, _ in leaves(arguments) if way and way[0] == len(arguments) - 1]
                for leaf in JUNK + LEAVES + (DEEP, DEEP_LIST, DEEP_DICT, LONG, -LONG, (LONG, LONG)):
                    for way in ways:
                        self.assertIn(call(*with_leaf(arguments, way, leaf)), (True, False), name)

    def test_equality_and_in_accept_every_value(self):
        bench = Bench(3)
        for value in JUNK + LEAVES:
            self.assertIn(bench == value, (value is bench, False))
            self.assertFalse(InvalidNumber(1) == value)
            self.assertIn(value in (bench, HardError("f")), (False, value is bench))
        for name, call, arguments in self.calls():
            result = call(*arguments)
            for value in JUNK:
                self.assertIn(result == value, (True, False))
                if isinstance(result, tuple):
                    self.assertIn(value in result, (True, False))


class NotTrue(Case):
    """[0.15]."""

    def test_cores_need_not_be_lots_of_points(self):
        f, family = (1, 1), ((1, -1), (-1, 1))
        self.assertEqual(core_answer(f, family, (1, 2), (0, 1))[0], "core")
        for w in ((1, (0, 1)), (1, (1, 0))):
            self.assertIs(is_core_answer(f, family, (1, 2), (0, 1), ("core", w)), False)

    def test_predictors_of_a_test_with_the_excess_0_can_have_sums(self):
        truth, design, test = (1, 1, 1, 1), ((0, 1), (1, 0)), (0, 0, 0, 0)
        self.assertEqual(bits_excess(truth, 2, design, test), (0, 1))
        self.assertEqual(predictor_sum(truth, 2, design, test, (0, (), (0,), 0)), -4)

    def test_advices_lead_back_to_strings_with_the_excess_0(self):
        design, test = ((0, 1), (1, 0)), (0, 0, 0, 0)
        self.assertEqual(string_excess(2, design, test, (0, 0)), (0, 1))
        self.assertEqual(led_back(2, design, test, (1, 4), (0, (), (0,), 0, 0)), (0, 0))


if __name__ == "__main__":
    unittest.main()

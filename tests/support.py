"""What the tests share: wrong values, near values, and checks of errors and judges."""

import unittest

from hardbits.errors import HardError


def nested(depth):
    """A tuple in a tuple, so many deep."""
    value = ()
    for _ in range(depth):
        value = (value,)
    return value


DEEP = nested(200)
DEEP_LIST = [DEEP]
DEEP_DICT = {0: DEEP}
HUGE = 10 ** 99 + 7
LONG = 10 ** 600 + 1

# Values that no judge takes, whatever it judges.
JUNK = (None, True, False, 0, 1, -1, HUGE, -HUGE, LONG, "", "core", "mix", "rows\n", (), [], {}, (None,), ((),),
        ((), ()),
        [()], DEEP, DEEP_LIST, DEEP_DICT, {(): ()}, HardError("a"), (HardError("b"), 1), ("core",), ("mix", None),
        ("rows", ()), ("columns", DEEP), ("worth", (0, 1)), ("edge",), ("share", 1, 2, 3), ("none", (1, (2,))),
        ("letters", None), ("pairs", DEEP), ("weights", (1, ())), ("level", (0, 0)), ("coupling", (1, {})),
        ("coupling", (1, {None: 1})), ("test", None), ("more", ()), ("full", None), ("within", None),
        ("within", (0, 2)), ("predictor", ()), ("predictor", DEEP), (0, (), 0, 0), (("more",), ()), (["more"], ()))

BAD_NUMBERS = (None, True, False, "1", (1,), [1], {}, HUGE, -HUGE, -1, HardError("n"))
BAD_FRACTIONS = (None, True, 1, "1/2", (), (1,), (1, 2, 3), [1, 2], (2, 4), (0, 2), (1, 0), (0, 0), (1, -2), (True, 2),
                 (1, True), (False, 1), ("1", 2), (1, None), ((1,), 2), (1, [2]), (10 ** 9, 1), (-10 ** 9, 1),
                 (1, 10 ** 9), (HUGE, HUGE - 1), (10 ** 9, 10 ** 9 + 1), (HUGE, HUGE + 1), {}, HardError("f"))
BAD_ROWS = (None, 1, True, "row", (), (1,), (1, ()), (1, (1,), 1), [1, (1,)], (1, [1]), (1, 1), (0, (1,)), (-1, (1,)),
            (True, (1,)), ("1", (1,)), (None, (1,)), (1, (True,)), (1, (1, False)), (1, (None,)), (1, ((1,),)),
            ((), (1,)),
            {}, HardError("r"))


class Case(unittest.TestCase):
    """A test case that also checks errors, their sequence, and judges."""

    def fails(self, error, call, *arguments):
        """Checks that just this error is raised, and that no argument is changed; returns the error."""
        before = changeable(arguments)
        with self.assertRaises(HardError, msg=(call.__name__, arguments)) as caught:
            call(*arguments)
        self.assertEqual(changeable(arguments), before, call.__name__)
        self.assertIs(type(caught.exception), error, (call.__name__, arguments))
        return caught.exception

    def fails_for(self, error, given, call, *arguments):
        """The same for an error that keeps the value for which it was raised."""
        found = self.fails(error, call, *arguments)
        if error.__name__ == "InvalidNumber":
            self.assertIs(found.given, given)
        if error.__name__ == "TooMany":
            self.assertEqual(found.most, given)

    def refuses(self, call, good, wrong, then=()):
        """Checks the errors of each wrong parameter, alone and with later ones wrong too.

        `good` is a list of arguments that are right, `wrong` tells for each of them an error and values for which
        it is raised, or None for a judged value. `then` are the errors that come behind all others: triples of
        arguments, an error and what it keeps.
        """
        before = repr(good)
        self.assertEqual(repr(call(*good)), repr(call(*good)))
        self.assertEqual(repr(good), before)
        for k, entry in enumerate(wrong):
            if entry is not None:
                for bad in entry[1]:
                    for arguments in self.spoilt(good, wrong, k, bad):
                        self.fails_for(entry[0], bad, call, *arguments)
        for arguments, error, kept in then:
            self.fails_for(error, kept, call, *arguments)
            for k, entry in enumerate(wrong):
                if entry is not None:
                    self.fails_for(entry[0], entry[1][0], call, *arguments[:k], entry[1][0], *arguments[k + 1:])

    def spoilt(self, good, wrong, k, bad):
        """The arguments with parameter k wrong: alone, with one later one wrong, with all later ones wrong."""
        alone = list(good)
        alone[k] = bad
        yield alone
        everything = list(alone)
        for j in range(k + 1, len(good)):
            also = list(alone)
            also[j] = wrong[j][1][0] if wrong[j] is not None else DEEP
            everything[j] = also[j]
            yield also
        yield everything

    def judged(self, judge, arguments, right=(), wrong=()):
        """Checks that a judge takes what is right, and refuses what is wrong, misshapen, or of another kind."""
        for value in right:
            self.assertIs(judge(*arguments, value), True, (judge.__name__, arguments, value))
            for near in misshapen(value):
                self.refused(judge, arguments, near)
        for value in wrong + JUNK:
            self.refused(judge, arguments, value)

    def refused(self, judge, arguments, value):
        """Checks that the judge refuses the value, and does not change it."""
        before = changeable((value,))
        self.assertIs(judge(*arguments, value), False, (judge.__name__, arguments, value))
        self.assertEqual(changeable((value,)), before, judge.__name__)


def changeable(values):
    """A text of those of the values that a call could change."""
    return repr([value for value in values if isinstance(value, (list, dict))])


def misshapen(value):
    """Values that differ from this one by a member of a wrong kind, or by one too much: no judge takes them."""
    yield from (None, DEEP, [value], (value,), "value")
    if isinstance(value, int) and value in (0, 1):
        yield value == 1
    if isinstance(value, str):
        yield from (value + " ", value.upper(), value.encode("ascii"))
    if isinstance(value, tuple):
        yield list(value)
        yield value + (None,)
        yield value + (DEEP,)
        for k, member in enumerate(value):
            for near in misshapen(member):
                yield value[:k] + (near,) + value[k + 1:]
    if isinstance(value, dict):
        yield tuple(value.items())
        yield {**value, None: 1}
        yield {**value, "a": 1}
        for pair, weight in value.items():
            rest = {other: value[other] for other in value if other != pair}
            for near in (None, True, str(weight), (weight,), DEEP):
                yield {**rest, pair: near}
            spoilt = [(True, pair[1]), (pair[0], False), (None, pair[1]), (pair[0], None), (str(pair[0]), pair[1])]
            for key in (None, pair[0], pair[:1], pair + (0,), str(pair), DEEP, *spoilt):
                yield {**rest, key: weight}


def is_least(row):
    """Whether no integer above 1 divides the bottom and all numbers."""
    bottom, numbers = row
    return all(bottom % k or any(number % k for number in numbers) for k in range(2, min(bottom, 2000) + 1))

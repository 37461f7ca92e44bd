"""Stage 22: a bench that holds a design, a test, a string and an edge, and is told lines."""

from hardbits.base.checks import need_number
from hardbits.base.kinds import is_share
from hardbits.errors import InvalidOperation, ParseError, TooMany
from hardbits.use.spelling import read_below, read_bits, read_lowest, spelled_fraction
from hardbits.words.designs import MOST_PLACES, MOST_TUPLES
from hardbits.words.strings import string_answer, string_excess

_MOST_IN_TUPLE = 5


def _need_alone(words):
    """Raises unless nothing stands behind the first word."""
    if len(words) > 1:
        raise ParseError(1)


def _second(words):
    """The second word; raises if it is wanting."""
    if len(words) == 1:
        raise ParseError(1)
    return words[1]


def _read(value, words):
    """What was read in the second word; raises if that is None, or if another word stands behind."""
    if value is None:
        raise ParseError(1)
    if len(words) > 2:
        raise ParseError(2)
    return value


def _read_places(l, design, words):
    """The places that stand behind the first word, as many as the tuples of the design have."""
    least, most = (len(design[0]), len(design[0])) if design else (1, _MOST_IN_TUPLE)
    places = ()
    for at in range(1, len(words)):
        place = read_below(words[at], l)
        if len(places) == most or place is None or place in places:
            raise ParseError(at)
        places = places + (place,)
    if len(places) < least:
        raise ParseError(len(words))
    return places


def _read_share(word):
    """The fraction above 0, at most 1, of which the word is the text, or None."""
    number = read_lowest(word)
    return number if is_share(number) else None


class Bench:
    """A design of places below l, a test, a string and an edge, as the lines that were told have left them."""

    def __init__(self, l):
        need_number(l, 1, MOST_PLACES)
        self.l = l
        self.design = ()
        self.test = None
        self.string = None
        self.edge = None
        self.lines = ()
        self._past = ()

    def __len__(self):
        return len(self.design)

    def __str__(self):
        return f"bench of {self.l} places, {len(self.design)} tuples"

    def tell(self, line):
        """Does a line, and returns its reply."""
        if not isinstance(line, str):
            raise ParseError(None)
        reply = self._reply(line.split(" "))
        self.lines = self.lines + (line,)
        return reply

    def _reply(self, words):
        """Does what the words tell; nothing is changed where an error is raised."""
        kind = words[0]
        if kind == "tuple":
            return self._add(words)
        if kind == "drop":
            return self._drop(words)
        if kind in ("test", "string", "edge"):
            return self._take(kind, words)
        if kind == "undo":
            return self._undo(words)
        if kind == "excess":
            return self._excess(words)
        if kind == "side":
            return self._side(words)
        raise ParseError(0)

    def _set(self, design, test, string, edge):
        """Keeps what the bench holds for `undo`, and lets it hold these instead."""
        self._past = self._past + ((self.design, self.test, self.string, self.edge),)
        self.design, self.test, self.string, self.edge = design, test, string, edge

    def _tuples(self):
        """The reply that tells the tuples."""
        if not self.design:
            return "no tuples"
        return f"{len(self.design)} tuples of {len(self.design[0])}"

    def _add(self, words):
        places = _read_places(self.l, self.design, words)
        if len(self.design) == MOST_TUPLES:
            raise TooMany(MOST_TUPLES)
        self._set(self.design + (places,), None, self.string, self.edge)
        return self._tuples()

    def _drop(self, words):
        index = _read(read_below(_second(words), len(self.design)), words)
        design = self.design[:index] + self.design[index + 1:]
        self._set(design, None, self.string if design else None, self.edge)
        return self._tuples()

    def _take(self, kind, words):
        word = _second(words)
        if kind == "edge":
            self._set(self.design, self.test, self.string, _read(_read_share(word), words))
        elif not self.design:
            raise ParseError(1)
        elif kind == "test":
            test = _read(read_bits(word, 1 << len(self.design)), words)
            self._set(self.design, test, self.string, self.edge)
        else:
            string = _read(read_bits(word, len(self.design[0])), words)
            self._set(self.design, self.test, string, self.edge)
        return "kept"

    def _undo(self, words):
        _need_alone(words)
        if not self._past:
            raise InvalidOperation("there is nothing to be taken back")
        self.design, self.test, self.string, self.edge = self._past[-1]
        self._past = self._past[:-1]
        return "undone"

    def _need_told(self):
        """Raises if tuples, test or string lack: the last two are there with tuples alone."""
        if self.test is None or self.string is None:
            raise InvalidOperation("tuples, a test or a string lack")

    def _excess(self, words):
        _need_alone(words)
        self._need_told()
        return spelled_fraction(string_excess(self.l, self.design, self.test, self.string))

    def _side(self, words):
        _need_alone(words)
        self._need_told()
        if self.edge is None:
            raise InvalidOperation("the edge lacks")
        return string_answer(self.l, self.design, self.test, self.edge, self.string)[0]

"""All errors that the package raises."""


class HardError(ValueError):
    """What all errors of the package are derived from."""


class InvalidFraction(HardError):
    """A value is not such a fraction."""


class InvalidRow(HardError):
    """A value is not such a row."""


class InvalidTruth(HardError):
    """A value is not such a truth."""


class InvalidFamily(HardError):
    """A value is not such a family."""


class InvalidMeasure(HardError):
    """A value is not such a measure."""


class InvalidMix(HardError):
    """A value is not such a mix."""


class InvalidDraw(HardError):
    """A value is not such a draw."""


class InvalidWord(HardError):
    """A value is not such a word or table."""


class InvalidDesign(HardError):
    """A value is not such a design."""


class InvalidAdvice(HardError):
    """A value is not such an advice or predictor."""


class InvalidMaps(HardError):
    """A value is not such a map, or tuple of maps."""


class InvalidClaim(HardError):
    """A value is not a claim."""


class InvalidOperation(HardError):
    """What is asked for is not to be had of these values."""


class InvalidNumber(HardError):
    """A number is not allowed where it was given."""

    def __init__(self, given):
        HardError.__init__(self, "not an allowed number")
        self.given = given


class UnknownName(HardError):
    """A name has no meaning."""

    def __init__(self, wanted):
        HardError.__init__(self, "not a known name")
        self.wanted = wanted


class TooMany(HardError):
    """There is more than the work limit lets."""

    def __init__(self, most):
        HardError.__init__(self, "more than the limit lets")
        self.most = most


class Refused(HardError):
    """What is asked for is refused, for a told reason."""

    def __init__(self, reason):
        HardError.__init__(self, "refused")
        self.reason = reason


class ParseError(HardError):
    """A text cannot be read."""

    def __init__(self, at):
        HardError.__init__(self, "cannot be read")
        self.at = at

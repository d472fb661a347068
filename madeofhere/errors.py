"""The errors of this package: what is refused, and what is not there."""


class MakeError(ValueError):
    """What is refused."""


class BadGood(MakeError):
    """What is no GOOD: the number of a THING, and the part of it that is wrong."""

    def __init__(self, number, part):
        self.number = number
        self.part = part


class BadPrices(MakeError):
    """What are no PRICES: the number of the first wrong one, or None."""

    def __init__(self, number):
        self.number = number


class BadWords(MakeError):
    """What are no WORDS."""

    def __init__(self, value):
        self.value = value


class BadNumber(MakeError):
    """What is no number of a thing."""

    def __init__(self, value):
        self.value = value


class BadPaper(MakeError):
    """What is no paper: the part of it that is wrong."""

    def __init__(self, part):
        self.part = part


class BadText(MakeError):
    """What is no text: the row that is wrong, from 1, or 0."""

    def __init__(self, line):
        self.line = line


class BadFraction(MakeError):
    """What is no FRACTION within its bounds."""

    def __init__(self, value):
        self.value = value


class BadChange(MakeError):
    """What is no CHANGE that can be."""

    def __init__(self, value):
        self.value = value


class BadMenu(MakeError):
    """What is no MENU: the number of the first wrong GOOD, or None."""

    def __init__(self, number):
        self.number = number


class BadSeen(MakeError):
    """What was not seen so: the number of the first wrong pair, or None."""

    def __init__(self, number):
        self.number = number


class Nothing(LookupError):
    """What is asked for is not there."""

    def __init__(self, value):
        self.value = value

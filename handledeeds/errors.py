"""All that the package refuses with. Each error has what it is made of as fields called so."""


class BadText(ValueError):
    """Of a text: word `at` is the first with which no such text goes on so."""

    def __init__(self, at):
        self.at = at


class BadName(ValueError):
    """What should be a NAME is none."""

    def __init__(self, name):
        self.name = name


class BadForm(ValueError):
    """What should be a TERM for a program is none."""

    def __init__(self, thing):
        self.thing = thing


class BadDeed(ValueError):
    """Of a row of deeds: deed `number` isn't so written."""

    def __init__(self, number):
        self.number = number


class BadAnswer(ValueError):
    """An answer isn't as the deed is answered."""

    def __init__(self, value):
        self.value = value


class BadRow(ValueError):
    """Of a desk's text: row `row` isn't so written, or can't stand there."""

    def __init__(self, row):
        self.row = row


class Clash(ValueError):
    """A term has no kinds: `place` is the first PLACE where that shows."""

    def __init__(self, place, why):
        self.place = place
        self.why = why


class Unlike(ValueError):
    """Two kinds, or two rosters, can't be the same."""


class NoName(KeyError):
    """A name stands for nothing."""

    def __init__(self, name):
        self.name = name


class NoAnswerer(KeyError):
    """A name of an answerer stands for nothing."""

    def __init__(self, name):
        self.name = name


class NoRun(KeyError):
    """No run has this number."""

    def __init__(self, number):
        self.number = number


class NoPlace(LookupError):
    """A term has no such PLACE."""

    def __init__(self, place):
        self.place = place


class NotAsked(LookupError):
    """A run is answered that doesn't wait."""

    def __init__(self, number=0):
        self.number = number


class Round(RuntimeError):
    """A program would need itself."""

    def __init__(self, name):
        self.name = name


class Broken(RuntimeError):
    """Another program could be looked at no more."""

    def __init__(self, other):
        self.other = other


class Used(RuntimeError):
    """Another program needs what should be dropped."""

    def __init__(self, other):
        self.other = other


class TooMany(OverflowError):
    """There are as many already as there may be."""

    def __init__(self, many):
        self.many = many

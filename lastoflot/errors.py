"""All errors that the package raises by itself."""


class LotError(ValueError):
    """What all errors of this package are."""


class BadBook(LotError):
    """A part of a book is wrong, at the item with a number, or -1 for the part as a whole."""

    def __init__(self, part, at):
        self.part = part
        self.at = at


class BadOffice(LotError):
    """A part of an office is wrong."""

    def __init__(self, part):
        self.part = part


class BadKinds(LotError):
    """A part of a book of kinds is wrong, at the item with a number, or -1 for it as a whole."""

    def __init__(self, part, at):
        self.part = part
        self.at = at


class BadText(LotError):
    """A line of a text, counted from 1, is wrong, or with 0 there is no text at all."""

    def __init__(self, line):
        self.line = line


class TooMany(LotError):
    """There are more than at most so many."""

    def __init__(self, most):
        self.most = most


class NoName(LotError):
    """There is no office of this name."""

    def __init__(self, name):
        self.name = name


class NoPeople(LotError):
    """A thing is no number of people."""


class NoHeaps(LotError):
    """A thing is no heaps."""


class NoCrowd(LotError):
    """A thing is no crowd."""


class NoRules(LotError):
    """A thing is no rules."""


class NoPerson(LotError):
    """A thing is no person who can stand here."""


class OtherPeople(LotError):
    """The people are not as many in both."""


class OtherBook(LotError):
    """The books are unlike."""


class OtherKinds(LotError):
    """The kinds are not as many in both."""


class NoPlace(LotError):
    """A thing is no place in the list."""


class NoNumber(LotError):
    """A thing is no number that can stand here."""


class NoList(LotError):
    """A thing is no list that can stand here."""


class NoTable(LotError):
    """A thing is no table of the book."""


class NoPair(LotError):
    """A thing is no clash pair."""


class NoRow(LotError):
    """A thing is no row."""


class NoSightings(LotError):
    """A thing is no sightings."""


class NoChooser(LotError):
    """A thing is no chooser."""


class NotSteady(LotError):
    """The office is not steady."""


class NoCrowds(LotError):
    """A thing is no crowds."""


class NoState(LotError):
    """A thing is no crowd within the crowd."""


class NoLooks(LotError):
    """A thing is no looks."""


class NoKinds(LotError):
    """A thing is no row of kinds."""


class NoKind(LotError):
    """A thing is no kind that can stand here."""


class NoHalls(LotError):
    """A thing is no halls."""


class NoLot(LotError):
    """A thing is no lot that can be added."""


class IsThere(LotError):
    """The person is there already."""


class NotThere(LotError):
    """The person is not there."""


class NothingDone(LotError):
    """There is nothing to take back."""


class NoLine(LotError):
    """A thing is no line that the desk knows."""

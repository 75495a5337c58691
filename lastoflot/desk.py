"""A desk that keeps offices under names and works by lines."""

from lastoflot.alike import alike, parting
from lastoflot.errors import NoLine, NoName, NothingDone
from lastoflot.fellows import many_fellows
from lastoflot.greatest import generous
from lastoflot.offices import check_crowd, lasts, let_in, out, reasons
from lastoflot.reading import numbers_in, read_office
from lastoflot.steady import steady
from lastoflot.tables import many_tables
from lastoflot.texts import numbers_text, office_text
from lastoflot.waiting import hopeful, places

LETTERS = "abcdefghijklmnopqrstuvwxyz"
MOST_LETTERS = 8


def crowd_text(crowd):
    """What tells a crowd in one word."""
    if len(crowd) == 0:
        return "-"
    return ",".join([str(person) for person in crowd])


def crowd_in(office, word):
    """The crowd of the people of an office that a word tells."""
    crowd = ()
    if word != "-":
        crowd = numbers_in(word.split(","))
    check_crowd(office, crowd)
    return crowd


def or_none(words):
    """Some words with blanks between, or the word for none."""
    return " ".join(words) or "none"


def yes_or_no(flag):
    """The word for a flag."""
    return "yes" if flag else "no"


def show_told(office):
    """The text of an office in one line."""
    return office_text(office).replace("\n", "|")


def lasts_told(office):
    """The lasts of all lots."""
    return numbers_text(lasts(office)) or "none"


def steady_told(office):
    """Whether an office is steady."""
    return yes_or_no(steady(office))


def generous_told(office):
    """Whether an office is generous."""
    return yes_or_no(generous(office))


def places_told(office):
    """How many waiting places an office needs."""
    return str(places(office))


def fellows_told(office):
    """How many fellows an office has."""
    return str(many_fellows(office))


def tables_told(office):
    """How many tables the book of an office has."""
    return str(many_tables(office.book))


def in_told(office, crowd):
    """Those let in."""
    return crowd_text(let_in(office, crowd))


def out_told(office, crowd):
    """Those who are out."""
    return crowd_text(out(office, crowd))


def hopeful_told(office, crowd):
    """The hopeful."""
    return crowd_text(hopeful(office, crowd))


def why_told(office, crowd):
    """For each one who is out the least lot of the reasons."""
    found = reasons(office, crowd)
    return or_none([f"{person}:{crowd_text(found[person])}" for person in sorted(found)])


def alike_told(one, other):
    """Whether two offices are alike."""
    return yes_or_no(alike(one, other))


def parting_told(one, other):
    """The crowd that parts two offices."""
    crowd = parting(one, other)
    return "none" if crowd is None else crowd_text(crowd)


OF_OFFICE = {
    "show": show_told, "lasts": lasts_told, "steady": steady_told, "generous": generous_told,
    "places": places_told, "fellows": fellows_told, "tables": tables_told,
}
OF_CROWD = {"in": in_told, "out": out_told, "hopeful": hopeful_told, "why": why_told}
OF_TWO = {"alike": alike_told, "parting": parting_told}


def words_in(line):
    """The list of the words of a line, the text of an office being one of them."""
    if not isinstance(line, str) or "\n" in line:
        raise NoLine()
    words = line.split(" ")
    if words[0] == "office":
        words = line.split(" ", 2)
    if not is_form(words):
        raise NoLine()
    return words


def is_form(words):
    """Whether some words are as many, and have the form, that the first one asks for."""
    word = words[0]
    many = len(words) - 1
    if word in ("names", "undo"):
        return many == 0
    if many == 0 or not is_name(words[1]):
        return False
    if word == "drop" or word in OF_OFFICE:
        return many == 1
    if word in OF_TWO:
        return many == 2 and is_name(words[2])
    return (word == "office" or word in OF_CROWD) and many == 2 and words[2] != ""


def is_name(word):
    """Whether a word can be the name of an office."""
    return 1 <= len(word) <= MOST_LETTERS and all([sign in LETTERS for sign in word])


class Desk:
    """Offices under names, and the lines that can be taken back."""

    def __init__(self):
        self.offices = {}
        # The name of each such line, and the office that stood under it ahead of the line, or None.
        self.done = []

    def tell(self, line):
        """Does one line, and returns what it tells."""
        words = words_in(line)
        word = words[0]
        if word == "names":
            return or_none(sorted(self.offices))
        if word == "undo":
            self.take_back()
        elif word == "office":
            self.change(words[1], read_office(words[2].replace("|", "\n")))
        elif word == "drop":
            self.kept_as(words[1])
            self.change(words[1], None)
        else:
            return self.asked(words)
        return "ok"

    def undoable(self):
        """How many lines can be taken back."""
        return len(self.done)

    def kept_as(self, name):
        """The office that is kept under a name."""
        if name not in self.offices:
            raise NoName(name)
        return self.offices[name]

    def change(self, name, office):
        """Keeps an office, or none, under a name, so that this can be taken back."""
        self.done.append((name, self.offices.get(name)))
        self.keep(name, office)

    def keep(self, name, office):
        """Keeps an office, or none, under a name."""
        if office is None:
            del self.offices[name]
        else:
            self.offices[name] = office

    def take_back(self):
        """Takes back the last line that is not taken back."""
        if len(self.done) == 0:
            raise NothingDone()
        name, office = self.done.pop()
        self.keep(name, office)

    def asked(self, words):
        """What a line tells that changes nothing."""
        word = words[0]
        office = self.kept_as(words[1])
        if word in OF_OFFICE:
            of_office = OF_OFFICE[word]
            return of_office(office)
        if word in OF_TWO:
            of_two = OF_TWO[word]
            return of_two(office, self.kept_as(words[2]))
        of_crowd = OF_CROWD[word]
        return of_crowd(office, crowd_in(office, words[2]))

"""A desk that works by lines (20.1, 20.2)."""

import random
import unittest
from itertools import permutations

from lastoflot.alike import alike, parting
from lastoflot.books import Book
from lastoflot.desk import Desk
from lastoflot.errors import BadBook, BadOffice, BadText, NoCrowd, NoLine, NoName, NothingDone, OtherPeople, TooMany
from lastoflot.fellows import many_fellows
from lastoflot.greatest import generous
from lastoflot.offices import Office, reasons
from lastoflot.steady import steady
from lastoflot.tables import many_tables
from lastoflot.texts import office_text
from lastoflot.waiting import hopeful, places
from tests import plain
from tests.plain import Checks, strange

ROW = "people 3|0 1|1 2|list 0 1 2|"
STAR = "people 3|0 1|0 2|list 0 1 2|"
ONE = "people 1|list 0|"
FREE = "people 2|list 1 0|"
# Offices of so many people with one lot.
NINE, TEN, ELEVEN = (f"people {people}|0 1|list {' '.join(map(str, range(people)))}|" for people in (9, 10, 11))
BAD_NAMES = ["", "abcdefghi", "A", "aB", "a1", "1", "0", "a-", "a_b", "-", "a.", "~", "a\t", "Row", "a|", "a,b", "a:"]
ASKS = ["in", "out", "hopeful", "why"]
ONES = ["show", "lasts", "steady", "generous", "places", "fellows", "tables"]
TWOS = ["alike", "parting"]


def in_one_line(office):
    return office_text(office).replace("\n", "|")


def word_of(crowd):
    return ",".join(map(str, crowd)) if crowd else "-"


def led(*lines):
    """A desk that has done some lines."""
    desk = Desk()
    for line in lines:
        desk.tell(line)
    return desk


def full():
    return led(f"office row {ROW}", f"office star {STAR}", f"office one {ONE}", f"office free {FREE}", "office ten " + TEN,
               "office eleven " + ELEVEN, f"office gone {ROW}", "drop gone")


class DeskTest(Checks, unittest.TestCase):
    def seen(self, desk):
        """All that a desk keeps, and how much of it can be taken back."""
        names = desk.tell("names").split(" ")
        return (names, [desk.tell("show " + name) for name in names if name != "none"], desk.undoable())

    def keeps(self, desk, texts):
        """Checks that a desk keeps just these texts under their names."""
        self.assertEqual(desk.tell("names"), " ".join(sorted(texts)) or "none")
        for name in texts:
            self.assertEqual(desk.tell("show " + name), texts[name])

    def changes_nothing(self, desk, line, wanted):
        before = self.seen(desk)
        answer = desk.tell(line)
        self.assertIsInstance(answer, str)
        self.assertEqual(answer, wanted, line)
        self.assertEqual(self.seen(desk), before)

    def wrong(self, kind, line, /, **fields):
        """Checks that a line raises an error with a desk, and that nothing changes, not even what can be taken back."""
        desk = full()
        before = self.seen(desk)
        self.raises(kind, desk.tell, line, **fields)
        self.assertEqual(self.seen(desk), before)
        for _ in range(8):
            desk.tell("undo")
        self.assertEqual(self.seen(desk), (["none"], [], 0))


class KeepTest(DeskTest):
    def test_nothing_yet(self):
        desk = Desk()
        self.assertEqual((desk.tell("names"), desk.undoable()), ("none", 0))
        self.raises(NothingDone, desk.tell, "undo")

    def test_office(self):
        desk = Desk()
        self.assertEqual(desk.tell(f"office b {ROW}"), "ok")
        self.assertEqual(desk.tell(f"office a {STAR}"), "ok")
        self.keeps(desk, {"a": STAR, "b": ROW})
        self.assertEqual(desk.undoable(), 2)
        self.assertEqual(desk.tell("names"), "a b")

    def test_elder_one(self):
        desk = led(f"office a {ROW}", f"office a {STAR}")
        self.keeps(desk, {"a": STAR})
        desk.tell(f"office a {STAR}")
        self.assertEqual(desk.undoable(), 3)
        self.assertEqual(desk.tell("undo"), "ok")
        self.keeps(desk, {"a": STAR})
        self.assertEqual(desk.tell("undo"), "ok")
        self.keeps(desk, {"a": ROW})
        self.assertEqual(desk.tell("undo"), "ok")
        self.keeps(desk, {})
        self.raises(NothingDone, desk.tell, "undo")

    def test_drop(self):
        desk = led(f"office a {ROW}", f"office b {STAR}")
        self.assertEqual(desk.tell("drop a"), "ok")
        self.keeps(desk, {"b": STAR})
        self.assertEqual(desk.undoable(), 3)
        self.raises(NoName, desk.tell, "drop a", name="a")
        self.assertEqual(desk.undoable(), 3)
        desk.tell(f"office a {ONE}")
        self.keeps(desk, {"a": ONE, "b": STAR})
        desk.tell("undo")
        self.keeps(desk, {"b": STAR})
        desk.tell("undo")
        self.keeps(desk, {"a": ROW, "b": STAR})

    def test_drawn_lines(self):
        rand = random.Random(271)
        texts = [in_one_line(office) for office in plain.some_offices(1, 272)] + [ROW, STAR, ONE, FREE, TEN, ELEVEN]
        for _ in range(12):
            desk, states = Desk(), [{}]
            for _ in range(60):
                name, kept = rand.choice(("a", "b", "ab", "abcdefgh", "z")), states[-1]
                word = rand.choice(("office", "office", "drop", "undo"))
                if word == "office":
                    written = rand.choice(texts)
                    self.assertEqual(desk.tell(f"office {name} {written}"), "ok")
                    states.append({**kept, name: written})
                elif word == "undo" and len(states) == 1:
                    self.raises(NothingDone, desk.tell, "undo")
                elif word == "undo":
                    self.assertEqual(desk.tell("undo"), "ok")
                    states.pop()
                elif name not in kept:
                    self.raises(NoName, desk.tell, f"drop {name}", name=name)
                else:
                    self.assertEqual(desk.tell(f"drop {name}"), "ok")
                    states.append({other: kept[other] for other in kept if other != name})
                self.keeps(desk, states[-1])
                self.assertEqual(desk.undoable(), len(states) - 1)
            while len(states) > 1:
                states.pop()
                desk.tell("undo")
                self.keeps(desk, states[-1])
            self.raises(NothingDone, desk.tell, "undo")

    def test_names(self):
        desk = Desk()
        for name in ("zz", "a", "b", "ab", "abcdefgh", "office", "names", "undo", "in", "none", "z", "drop", "list", "people"):
            self.assertEqual(desk.tell(f"office {name} {ONE}"), "ok")
            self.assertEqual(desk.tell(f"show {name}"), ONE)
            self.assertEqual(desk.tell(f"in {name} 0"), "0")
        self.assertEqual(desk.tell("names"), "a ab abcdefgh b drop in list names none office people undo z zz")

    def test_desks_are_apart(self):
        one, other = led(f"office a {ROW}"), Desk()
        self.keeps(other, {})
        other.tell(f"office a {ONE}")
        self.keeps(one, {"a": ROW})
        self.raises(NoName, one.tell, "drop b", name="b")

    def test_kinds(self):
        for name in ("tell", "undoable"):
            self.assertIn(name, vars(Desk))
        self.assertFalse(Desk() == Book(1, ()))
        self.assertFalse(Book(1, ()) == Desk())
        self.assertIs(Desk().undoable().__class__, int)


class AskTest(DeskTest):
    def test_of_one(self):
        for office in plain.some_offices(1, 273):
            written = in_one_line(office)
            desk = led(f"office a {ONE}", f"office b {written}")
            lasts = plain.table(office.book.lots, office.order)
            for word, wanted in (
                    ("show", written), ("lasts", " ".join(map(str, lasts)) or "none"),
                    ("steady", "yes" if plain.is_steady(office) else "no"),
                    ("generous", "yes" if generous(office) else "no"), ("places", str(places(office))),
                    ("fellows", str(sum(plain.table(office.book.lots, order) == lasts for order in permutations(office.order)))),
                    ("tables", str(len({plain.table(office.book.lots, order) for order in permutations(office.order)})))):
                self.changes_nothing(desk, f"{word} b", wanted)

    def test_of_a_crowd(self):
        for office in plain.some_offices(1, 274):
            desk = led(f"office b {ONE}", f"office a {in_one_line(office)}")
            for crowd in plain.crowds(office.book.people):
                inside = plain.let_in(office.book.lots, office.order, crowd)
                gone = plain.left(crowd, inside)
                found = reasons(office, crowd)
                why = " ".join(f"{person}:{word_of(found[person])}" for person in gone) or "none"
                for word, wanted in (("in", word_of(inside)), ("out", word_of(gone)), ("why", why),
                                     ("hopeful", word_of(hopeful(office, crowd)))):
                    self.assertEqual(desk.tell(f"{word} a {word_of(crowd)}"), wanted)
            self.assertEqual(desk.undoable(), 2)

    def test_of_two(self):
        offices = plain.some_offices(3, 275)
        rand = random.Random(276)
        for people in (1, 2, 3, 4):
            some = [office for office in offices if office.book.people == people]
            for _ in range(30):
                one, other = rand.choice(some), rand.choice(some)
                desk = led(f"office one {in_one_line(one)}", f"office other {in_one_line(other)}")
                crowd = parting(one, other)
                self.changes_nothing(desk, "alike one other", "yes" if alike(one, other) else "no")
                self.changes_nothing(desk, "parting other one", "none" if crowd is None else word_of(crowd))
                self.changes_nothing(desk, "alike other other", "yes")
                self.changes_nothing(desk, "parting one one", "none")

    def test_named(self):
        desk = full()
        for line, wanted in (
                ("names", "eleven free one row star ten"), ("show row", ROW), ("show free", FREE), ("show eleven", ELEVEN),
                ("in row 0,1,2", "0,2"), ("in row 1,2", "1"), ("in row -", "-"), ("in free 0,1", "0,1"), ("in one 0", "0"),
                ("out row 0,1,2", "1"), ("out row 0,2", "-"), ("out row -", "-"), ("hopeful row 1,2", "2"),
                ("hopeful star 1,2", "-"), ("hopeful ten 0,1", "-"), ("why row 0,1,2", "1:0,1"), ("why row 0,2", "none"),
                ("why row -", "none"), ("why star 0,1,2", "1:0,1 2:0,2"), ("lasts row", "1 2"), ("lasts free", "none"),
                ("alike row row", "yes"), ("alike row star", "no"), ("parting row star", "0,2"), ("parting star star", "none"),
                ("steady row", "no"), ("steady star", "yes"), ("generous row", "yes"), ("places row", "1"),
                ("places star", "0"), ("fellows row", "1"), ("fellows star", "2"), ("tables row", "4"), ("tables free", "1"),
                ("generous ten", "yes"), ("places ten", "0"), ("fellows eleven", str(many_fellows(Office(
                    Book(11, ((0, 1),)), tuple(range(11)))))), ("steady eleven", "yes"), ("lasts eleven", "1"),
                ("in eleven 0,1,9,10", "0,9,10"), ("why eleven 0,1,10", "1:0,1"), ("alike eleven eleven", "yes")):
            self.changes_nothing(desk, line, wanted)

    def test_long_reasons(self):
        desk = led("office a people 12|0 1 2 10|0 11|list 10 0 2 1 3 4 5 6 7 8 9 11|")
        self.assertEqual(desk.tell("why a 0,1,2,10,11"), "1:0,1,2,10 11:0,11")
        self.assertEqual(desk.tell("lasts a"), "1 11")
        # The least of the lots is told, and people ascending, however they stand in the list.
        desk = led("office a people 4|0 1|0 2|1 3|2 3|list 1 2 3 0|")
        self.assertEqual(desk.tell("why a 0,1,2,3"), "0:0,1 3:1,3")
        desk = led("office a people 4|0 3|1 2|list 0 2 3 1|")
        self.assertEqual(desk.tell("why a 0,1,2,3"), "1:1,2 3:0,3")

    def test_great_offices(self):
        for office in plain.great_offices(277):
            desk = led(f"office a {in_one_line(office)}")
            self.assertEqual(desk.tell("steady a"), "yes" if steady(office) else "no")
            self.assertEqual(desk.tell("fellows a"), str(many_fellows(office)))
            self.assertEqual(desk.tell("in a 0,1,2,3"), word_of(plain.let_in(office.book.lots, office.order, (0, 1, 2, 3))))
            if office.book.people <= 9:
                self.assertEqual(desk.tell("tables a"), str(many_tables(office.book)))
            else:
                self.raises(TooMany, desk.tell, "tables a", most=9)


class WrongTest(DeskTest):
    def test_no_string(self):
        for wrong in [thing for thing in strange() if not isinstance(thing, str)] + [b"names", ["names"], ("names",)]:
            desk = led(f"office a {ROW}")
            self.raises(NoLine, desk.tell, wrong)
            self.assertEqual(desk.undoable(), 1)

    def test_no_form(self):
        lines = [thing for thing in strange() if isinstance(thing, str)] + [
            "", " ", "  ", "\t", "Names", "NAMES", "name", "names ", " names", "names row", "names  ", "undo ", " undo",
            "undo row", "undo 1", "redo", "x", "help", "-", "office", "office ", "office row", "office row ", "office  ",
            f"office  {ROW}", f"office  row {ROW}", f" office row {ROW}", "Office row " + ROW, f"office\trow {ROW}",
            f"office row\t{ROW}", "offices row " + ROW, "drop", "drop ", "drop  row", "drop row ", " drop row", "drop row row",
            "drop row star", "Drop row", "drop\trow", "show", "show ", "show row star", "show  row", "show row ", "row show",
            "steady", "in", "in ", "in row", "in row ", "in row 0 1", "in row 0,1 ", "in row  0,1", "in  row 0,1", " in row 0",
            "in row 0, 1", "In row 0", "in 0 row", "in 0", "in row row 0", "out row 0 ", "hopeful row", "why row", "why row 0 2",
            "alike", "alike row", "alike row ", "alike  row", "alike row  star", "alike row star ", "alike row star one",
            "parting row", "parting row 0", "parting row 0,1", "alike row -", "parting  row star", "places", "places row 0",
            "fellows row star", "tables 3", "lasts row 0", "generous row row", "in\trow\t0", "in row\t0", "tell names",
            "kept row", "alike row Star", "from_below row 0", "bases row 0", "let_in row 0", "outs row 0", "reasons row 0",
            "many_fellows row", "ok", "undoable", "nam es", "names\t", "undo\t", "show\trow"]
        for line in lines:
            self.wrong(NoLine, line)

    def test_line_feeds(self):
        for line in ("names\n", "\nnames", "undo\n", f"office row {ROW}\n", "office row people 1\nlist 0\n", "in row 0\n",
                     "in row 0,1\n,2", "drop\nrow", "show row\n", "\n", "names\nundo", "office row \n", "in row \n",
                     "alike row\nstar", "in nobody \n", "office row x\n"):
            self.wrong(NoLine, line)

    def test_bad_names(self):
        for name in BAD_NAMES:
            for line in [f"office {name} {ROW}", f"office {name} x", f"drop {name}"] + [f"{word} {name}" for word in ONES] + [
                    f"{word} {name} {crowd}" for word in ASKS for crowd in ("0", "-", "x")] + [
                    f"{word} {pair}" for word in TWOS for pair in (f"{name} row", f"row {name}", f"{name} {name}")]:
                self.wrong(NoLine, line)
        for name in ("a", "abcdefgh", "zzzzzzzz", "none"):
            self.assertEqual(full().tell(f"office {name} {ROW}"), "ok")
            self.wrong(NoName, f"show {name}", name=name)

    def test_bad_text(self):
        for written, line in (
                ("x", 1), (" ", 1), ("|", 1), ("||", 1), ("people 3", 1), ("people 3|", 2), (ROW[:-1], 4), (ROW + "|", 5),
                (ROW + "x", 5), (ROW + "0 1|", 5), (" " + ROW, 1), (ROW + " ", 5), (ROW.replace("0 1|", "0  1|"), 2),
                (ROW.replace("0 1|", "00 1|"), 2), ("people 03|list 0 1 2|", 1), ("people 3|0 1|1 2|", 4), ("0 1|list 0 1|", 1),
                ("list 0|people 1|", 1), ("people 1|list 0", 2), ("people 1||list 0|", 2), ("people 1|list 0||", 3),
                ("people 99|x|", 2), ("people 1|\tlist 0|", 2), (ROW.replace("|", "/"), 1), (ROW.replace("|", " "), 1),
                ("row", 1), ("-", 1), ("people 12345|list 0|", 1), (ROW + ROW, 5)):
            self.wrong(BadText, f"office row {written}", line=line)
            self.wrong(BadText, f"office new {written}", line=line)

    def test_bad_book_and_office(self):
        for written, part, at in (("people 0|list 0|", "people", -1), ("people 13|list 0|", "people", -1),
                                  ("people 3|1 0|list 0 1 2|", "lots", 0), ("people 3|0 1|0 1|list 0 1 2|", "lots", 1),
                                  ("people 3|0 1|0 1 2|list 9|", "lots", 1), ("people 2|0|list 0 1|", "lots", 0)):
            self.wrong(BadBook, f"office row {written}", part=part, at=at)
            self.wrong(BadBook, f"office new {written}", part=part, at=at)
        for written in ("people 3|0 1|list 0 1|", "people 1|list 1|", "people 3|list 0 1 1|", "people 3|list 0 1 2 3|"):
            self.wrong(BadOffice, f"office row {written}", part="order")
            self.wrong(BadOffice, f"office new {written}", part="order")

    def test_no_name(self):
        for name in ("gone", "rows", "a", "abcdefgh", "names"):
            for line in [f"drop {name}"] + [f"{word} {name}" for word in ONES] + [
                    f"{word} {name} {crowd}" for word in ASKS for crowd in ("0,1", "-", "x", "0,0", "99")] + [
                    f"{word} {pair}" for word in TWOS for pair in (f"{name} row", f"row {name}", f"{name} {name}",
                                                                   f"{name} other", f"free {name}")]:
                self.wrong(NoName, line, name=name)
        self.wrong(NoName, "alike other gone", name="other")
        self.wrong(NoName, "parting gone other", name="gone")
        self.wrong(NoName, "hopeful gone x", name="gone")

    def test_no_crowd(self):
        for word in ASKS:
            for crowd in ("00", "01", "0,01", "1,0", "0,0", "0,1,1", "3", "0,3", "0,1,2,3", "--", "-,0", "0,-", "-0", "-1", "+1", ",",
                          "0,", ",0", "0,,1", "x", "0,x", "()", "(0,1)", "0;1", "0.1", "0:1", "0\t", "\t", "12345", "0,12345",
                          "9999", "none", "row", "0,1,2,", "2,1", "~", "|", "0|1", "1,2,0", "000", "0,1,02", "_", "1_", "a,b"):
                self.wrong(NoCrowd, f"{word} row {crowd}")
            for crowd in ("1", "0,1", "x"):
                self.wrong(NoCrowd, f"{word} one {crowd}")
            for crowd in ("x", "11", "0,11", "1,0"):
                self.wrong(NoCrowd, f"{word} eleven {crowd}")
            self.wrong(NoCrowd, f"{word} ten 10")

    def test_what_the_functions_raise(self):
        for word in ("generous", "places"):
            self.wrong(TooMany, f"{word} eleven", most=10)
        for crowd in ("-", "0,1", "10"):
            self.wrong(TooMany, f"hopeful eleven {crowd}", most=10)
        for name in ("ten", "eleven"):
            self.wrong(TooMany, f"tables {name}", most=9)
        self.assertEqual(led("office a " + NINE).tell("tables a"), "2")
        for word in TWOS:
            for one, other in permutations(("row", "one", "free", "ten", "eleven"), 2):
                self.wrong(OtherPeople, f"{word} {one} {other}")

    def test_nothing_done(self):
        desk = led(f"office a {ROW}", "undo")
        self.raises(NothingDone, desk.tell, "undo")
        self.raises(NoLine, desk.tell, "undo ")
        self.keeps(desk, {})

    def test_two_things_wrong(self):
        # A name that is none counts ahead of all, then the text, then the name that is not kept, then the crowd.
        self.wrong(NoLine, "office Row x")
        self.wrong(NoLine, "office abcdefghi people 13|")
        self.wrong(NoLine, "in GONE x")
        self.wrong(NoLine, "in gone x y")
        self.wrong(NoLine, "in gone ")
        self.wrong(NoLine, "alike gone Row")
        self.wrong(NoLine, "drop gone row")
        self.wrong(BadText, "office row people 13|x|", line=2)
        self.wrong(BadText, "office row people 3|1 0|", line=3)
        self.wrong(BadText, "office gone people 3|list 0|x", line=3)
        self.wrong(BadBook, "office gone people 3|1 0|list 5|", part="lots", at=0)
        self.wrong(BadBook, "office gone people 13|1 0|list 5|", part="people", at=-1)
        self.wrong(NoName, "hopeful gone 0,x", name="gone")
        self.wrong(NoName, "alike eleven gone", name="gone")
        self.wrong(NoName, "alike gone eleven", name="gone")
        self.wrong(NoCrowd, "hopeful eleven 1,0")
        self.wrong(NoCrowd, "hopeful eleven 11")
        self.wrong(OtherPeople, "parting eleven ten")

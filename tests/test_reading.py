"""Reading the texts of books and offices (19.1)."""

import unittest
from itertools import combinations

from lastoflot.books import Book
from lastoflot.errors import BadBook, BadOffice, BadText
from lastoflot.offices import Office
from lastoflot.reading import read_book, read_office
from tests.plain import Checks, strange

ROW = Office(Book(3, ((0, 1), (1, 2))), (0, 1, 2))
BOOK = ["people 3", "0 1", "1 2"]
OFFICE = ["people 3", "0 1", "1 2", "list 0 1 2"]
# Lines that have none of the forms, wherever they stand.
WRONG = [
    "", " ", "  ", "\t", "people", "people ", "people  3", "people 3 ", " people 3", "people 03", "people 00", "people 12345",
    "people 00003", "people -3", "people +3", "people 3.0", "people three", "people 3 4", "people\t3", "People 3", "people3",
    "PEOPLE 3", "peoples 3", "people x", "people 3\t", "people 3x", "people,3", "3 people", "people people 3",
    "0  1", "0 1 ", " 0 1", "0 01", "00 1", "0 00", "0,1", "0\t1", "0 1\t", "0 -1", "0 +1", "0 12345", "0 1.", "0 x", "x",
    "0 1 x", "-", "0 1 -", "01", "0_1", "0 1e1", "0x1", "10000", "00", "0 1|", "a b", "0 1 list", "0 people 1", "1 list",
    "list", "list ", "list  0 1 2", "list 0  1 2", "list 0 1 2 ", " list 0 1 2", "list 0 1 02", "list 0,1,2", "list\t0 1 2",
    "list x", "list 0 1 -2", "list 0 1 12345", "List 0 1 2", "lists 0 1 2", "list0 1 2", "list list 0 1 2", "list 0 1 2\t",
    "~", "not both 0 1", "#", "people 3,", "0 1;", "lot 0 1", "0 1 2 people 3", "list people 3", "people list 0",
]


def text(lines):
    return "".join(line + "\n" for line in lines)


class ReadTest(Checks, unittest.TestCase):
    def bad(self, call, lines, line):
        self.raises(BadText, call, text(lines), line=line)

    def test_right_ones(self):
        self.assertEqual(read_book(text(BOOK)), ROW.book)
        self.assertEqual(read_office(text(OFFICE)), ROW)
        self.assertEqual(read_book("people 1\n"), Book(1, ()))
        self.assertEqual(read_book("people 12\n10 11\n"), Book(12, ((10, 11),)))
        self.assertEqual(read_office("people 1\nlist 0\n"), Office(Book(1, ()), (0,)))
        self.assertEqual(read_office("people 2\nlist 1 0\n").order, (1, 0))
        self.assertEqual(read_office("people 4\n0 1 2\n0 3\nlist 3 1 0 2\n"),
                         Office(Book(4, ((0, 1, 2), (0, 3))), (3, 1, 0, 2)))

    def test_no_string(self):
        for wrong in [thing for thing in strange() if not isinstance(thing, str)] + [text(BOOK).encode(), [text(BOOK)], BOOK]:
            self.raises(BadText, read_book, wrong, line=0)
            self.raises(BadText, read_office, wrong, line=0)

    def test_strange_strings(self):
        for wrong in [thing for thing in strange() if isinstance(thing, str)] + ["people 3", "0 1", "list 0", "\t", "|", "~"]:
            self.raises(BadText, read_book, wrong, line=1)
            self.raises(BadText, read_office, wrong, line=1)

    def test_nothing(self):
        for call in (read_book, read_office):
            self.raises(BadText, call, "", line=1)
            self.raises(BadText, call, "\n", line=1)
            self.raises(BadText, call, "\n\n\n", line=1)
            self.raises(BadText, call, "\n" + text(OFFICE), line=1)

    def test_wrong_lines(self):
        for wrong in WRONG:
            for at in range(3):
                self.bad(read_book, BOOK[:at] + [wrong] + BOOK[at + 1:], at + 1)
                self.bad(read_book, BOOK[:at] + [wrong] + BOOK[at:], at + 1)
            self.bad(read_book, BOOK + [wrong], 4)
            for at in range(4):
                self.bad(read_office, OFFICE[:at] + [wrong] + OFFICE[at + 1:], at + 1)
                self.bad(read_office, OFFICE[:at] + [wrong] + OFFICE[at:], at + 1)
            self.bad(read_office, OFFICE + [wrong], 5)

    def test_first_wrong_line(self):
        for first in WRONG[::3]:
            for second in WRONG[::5]:
                self.bad(read_office, ["people 3", first, "0 1", second], 2)
                self.bad(read_book, ["people 3", "9 9", first, second], 3)
                self.raises(BadText, read_office, text(["people 99", first]) + second, line=2)

    def test_out_of_place(self):
        # Lines of the right form where they cannot stand.
        self.bad(read_book, OFFICE, 4)
        self.bad(read_book, ["people 3", "list 0 1 2"], 2)
        self.bad(read_book, ["people 3", "list 0 1 2", "0 1"], 2)
        self.bad(read_book, ["people 3", "list 0"], 2)
        for call in (read_book, read_office):
            self.bad(call, ["0 1", "people 3", "list 0 1 2"], 1)
            self.bad(call, ["list 0 1 2"], 1)
            self.bad(call, ["list 0 1 2", "people 3"], 1)
            self.bad(call, ["0 1"], 1)
            self.bad(call, ["0"], 1)
            self.bad(call, ["3"], 1)
            self.bad(call, ["people 3", "people 3"], 2)
            self.bad(call, ["people 3", "0 1", "people 3"], 3)
            self.bad(call, ["people 3", "0 1", "people 4", "list 0 1 2"], 3)
        for behind in ("list 0 1 2", "0 1", "1 2", "people 3", "list 0", "0", "2 0"):
            self.bad(read_office, OFFICE + [behind], 5)
            self.bad(read_office, OFFICE + [behind, behind], 5)
            self.bad(read_office, ["people 3", "list 0 1 2", behind], 3)
        self.bad(read_office, ["people 3", "0 1", "list 0 1 2", "1 2"], 4)
        self.bad(read_office, ["people 99", "list 7", "1 2"], 3)

    def test_left_out(self):
        self.bad(read_book, BOOK[1:], 1)
        self.bad(read_office, OFFICE[1:], 1)
        self.bad(read_office, BOOK, 4)
        self.bad(read_office, BOOK[:1], 2)
        self.bad(read_office, ["people 99"], 2)
        self.bad(read_office, ["people 3", "9 9 9"], 3)
        self.assertEqual(read_book(text(BOOK[:1])), Book(3, ()))
        self.assertEqual(read_office(text([OFFICE[0], OFFICE[3]])), Office(Book(3, ()), (0, 1, 2)))

    def test_end(self):
        for behind in ("0 1", " ", "x", "people 3", "list 0 1 2", "\t", "0"):
            self.raises(BadText, read_book, text(BOOK) + behind, line=4)
            self.raises(BadText, read_office, text(OFFICE) + behind, line=5)
            self.raises(BadText, read_office, text(BOOK) + behind, line=4)
            self.raises(BadText, read_book, behind, line=1)
            self.raises(BadText, read_office, behind, line=1)
        self.raises(BadText, read_book, text(BOOK)[:-1], line=3)
        self.raises(BadText, read_office, text(OFFICE)[:-1], line=4)
        self.raises(BadText, read_book, "people 3", line=1)
        self.raises(BadText, read_office, "people 3\nlist 0 1 2", line=2)
        self.raises(BadText, read_book, text(BOOK) + "\n", line=4)
        self.raises(BadText, read_office, text(OFFICE) + "\n", line=5)
        self.raises(BadText, read_office, text(["people 3", "x"]) + "y", line=2)

    def test_bad_book(self):
        for lines, part, at in (
                (["people 0"], "people", -1), (["people 13"], "people", -1), (["people 9999"], "people", -1),
                (["people 0", "0"], "people", -1), (["people 3", "0"], "lots", 0), (["people 3", "0 3"], "lots", 0),
                (["people 3", "1 0"], "lots", 0), (["people 3", "0 0"], "lots", 0), (["people 3", "0 1", "0 1"], "lots", 1),
                (["people 3", "1 2", "0 1"], "lots", 1), (["people 3", "0 1", "2 1"], "lots", 1),
                (["people 3", "0 1", "0 1 2"], "lots", 1), (["people 3", "0 1 2", "0 1"], "lots", 1),
                (["people 3", "0 1 2", "1 2"], "lots", 1), (["people 3", "0 9999"], "lots", 0),
                (["people 1", "0 1"], "lots", 0), (["people 3", "0 1", "0 2", "1"], "lots", 2)):
            self.raises(BadBook, read_book, text(lines), part=part, at=at)
            for order in ("list 0 1 2", "list 0", "list 9999", "list 0 0 0"):
                self.raises(BadBook, read_office, text(lines + [order]), part=part, at=at)

    def test_sixty_lots(self):
        pairs = list(combinations(range(12), 2))
        lines = ["people 12"] + [f"{a} {b}" for a, b in pairs]
        order = "list " + " ".join(map(str, range(12)))
        self.assertEqual(read_book(text(lines[:61])), Book(12, tuple(pairs[:60])))
        self.assertEqual(read_office(text(lines[:61] + [order])).book.lots, tuple(pairs[:60]))
        self.raises(BadBook, read_book, text(lines[:62]), part="lots", at=-1)
        self.raises(BadBook, read_office, text(lines[:62] + [order]), part="lots", at=-1)
        self.raises(BadBook, read_book, text(["people 12"] + ["0"] * 61), part="lots", at=-1)
        self.raises(BadText, read_book, text(["people 12"] + ["0"] * 61 + [""]), line=63)
        self.raises(BadBook, read_book, text(["people 13"] + ["0"] * 61), part="people", at=-1)

    def test_bad_office(self):
        for order in ("0", "0 1", "0 1 2 3", "0 1 3", "0 0 1", "0 1 1", "1 2 3", "9999", "0 1 9999", "2 1 0 0"):
            self.raises(BadOffice, read_office, text(BOOK + ["list " + order]), part="order")
        self.raises(BadOffice, read_office, "people 1\nlist 1\n", part="order")
        self.raises(BadOffice, read_office, "people 2\nlist 0\n", part="order")

    def test_any_order_in_a_line(self):
        # Whatever order the persons of a line have is the one that the lot or the list has.
        self.assertEqual(read_office(text(BOOK + ["list 2 0 1"])).order, (2, 0, 1))
        self.raises(BadBook, read_book, text(["people 3", "2 1"]), part="lots", at=0)
        self.raises(BadBook, read_book, text(["people 3", "0 2 1"]), part="lots", at=0)

    def test_four_figures(self):
        self.raises(BadBook, read_book, "people 1000\n", part="people", at=-1)
        self.raises(BadText, read_book, "people 10000\n", line=1)
        self.raises(BadBook, read_book, "people 3\n0 1000\n", part="lots", at=0)
        self.raises(BadText, read_book, "people 3\n0 10000\n", line=2)
        self.raises(BadOffice, read_office, "people 3\nlist 1000\n", part="order")
        self.raises(BadText, read_office, "people 3\nlist 10000\n", line=2)

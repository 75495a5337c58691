"""Texts of books and offices."""


def numbers_text(persons):
    """The numbers of some persons, with a blank between two."""
    return " ".join([str(person) for person in persons])


def closed_lines(lines):
    """The text of some lines, each closed by a line feed."""
    return "".join([line + "\n" for line in lines])


def book_text(book):
    """The text of a book: a line for its people, and one for each lot."""
    return closed_lines([f"people {book.people}"] + [numbers_text(lot) for lot in book.lots])


def office_text(office):
    """The text of an office: that of its book, and a line for the list."""
    return book_text(office.book) + closed_lines(["list " + numbers_text(office.order)])

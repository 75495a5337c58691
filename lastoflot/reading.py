"""Reading the texts of books and offices."""

from lastoflot.books import Book
from lastoflot.errors import BadText
from lastoflot.offices import Office

FIGURES = "0123456789"
MOST_FIGURES = 4


def number_in(word):
    """The number that a word tells, or None."""
    if not 1 <= len(word) <= MOST_FIGURES or not all([sign in FIGURES for sign in word]):
        return None
    if word[0] == "0" and word != "0":
        return None
    return int(word)


def numbers_in(words):
    """The tuple of the numbers that some words tell, or None if one tells none."""
    numbers = [number_in(word) for word in words]
    if None in numbers:
        return None
    return tuple(numbers)


def lines_in(text):
    """The list of the lines that are closed by a line feed, and at last of what stands behind them."""
    if not isinstance(text, str):
        raise BadText(0)
    return text.split("\n")


def line_told(line):
    """The word with which a line begins, "" for a lot, and its numbers, or None if it has no such form."""
    words = line.split(" ")
    word = ""
    if words[0] in ("people", "list"):
        word = words[0]
        words = words[1:]
    numbers = numbers_in(words)
    if numbers == () or (word == "people" and len(words) != 1):
        return (word, None)
    return (word, numbers)


def text_told(text, has_list):
    """The numbers of each line: first of the people, then of each lot, at last of the list if the text has one."""
    lines = lines_in(text)
    found = []
    listed = False
    for at in range(len(lines) - 1):
        word, numbers = line_told(lines[at])
        if numbers is None or listed or (word == "people") != (at == 0) or (word == "list" and not has_list):
            raise BadText(at + 1)
        listed = word == "list"
        found.append(numbers)
    if lines[-1] != "" or len(found) == 0 or listed != has_list:
        raise BadText(len(lines))
    return found


def read_book(text):
    """The book of a text."""
    found = text_told(text, False)
    return Book(found[0][0], tuple(found[1:]))


def read_office(text):
    """The office of a text."""
    found = text_told(text, True)
    return Office(Book(found[0][0], tuple(found[1:-1])), found[-1])

"""The interface: names, files, arguments."""

import importlib
import inspect
import unittest

INTERFACE = {
    "books": "is_clear(book, thing) book_of(people, heaps) bases(book, crowd)",
    "rules": "keeps(people, rules, crowd) lots_by(people, rules)",
    "offices": "lasts(office) let_in(office, crowd) out(office, crowd) from_below(office, crowd) "
               "reasons(office, crowd) outcomes(office) is_reason(office, crowd, person, thing)",
    "alike": "alike(one, other) is_steps(one, other, thing) parting(one, other) exchanged(office, k) "
             "steps(one, other)",
    "fellows": "many_fellows(office) fellow_number(office, order) fellow_at(office, number) bound_pairs(office) "
               "may_stand(office, person)",
    "tables": "list_for(book, table) ring_of(book, table) is_ring(book, table, thing) lists_with(book, table) "
              "many_tables(book) all_tables(book) least_lists(book)",
    "steady": "steady(office) is_thirds(office, thing) is_recall(office, thing) is_last_in(office, thing) "
              "is_below_unlike(office, thing) clash_pairs(office) third_of(office, pair) thirds(office) "
              "clash(office) last_in(office) recall(office) below_unlike(office)",
    "always": "always_steady(book) is_unsteady_list(book, thing) spare(book) unsteady_list(book)",
    "waiting": "hopeful(office, crowd) fullest(office) bringers(office, crowd, person) places(office) "
               "crowded(office, many) is_crowded(office, many, thing) kept(office, row)",
    "keepers": "wrong_row(office, many, keeper)",
    "sightings": "is_fitting(book, sightings, thing) is_bar_to_lists(book, sightings, thing) "
                 "is_dropped(book, sightings, thing) fitting(book, sightings) bar_to_lists(book, sightings) "
                 "many_fitting(book, sightings) fewest_dropped(book, sightings) dropped(book, sightings)",
    "verdicts": "surely_ahead(book, sightings) verdicts(book, sightings, crowd) parted_by(book, sightings)",
    "choosers": "is_chooser(people, thing) is_bar_to_offices(people, chooser, thing) office_of(people, chooser) "
                "bar_to_offices(people, chooser)",
    "comers": "comer(office, crowd, person) leaver(office, crowd, person) touching(office) most_touched(office) "
              "one_for_one(office) is_two_for_one(office, thing) two_for_one(office) lots_for_two(office)",
    "greatest": "most(book, crowd) greatest_clear(book, crowd) generous(office) is_stingy(office, thing) "
                "is_fewer(office, thing) always_generous(book) is_mean_list(book, thing) stingy(office) fewer(office) "
                "mean_list(book) least_share(office)",
    "turns": "next_day(office, crowd) after(office, crowds) days(office, crowds) flower(book, person) "
             "flower_ahead(office, person) longest_out(office, person) is_flower(book, person, thing) "
             "is_out_through(office, person, thing)",
    "fronts": "next_front(office, crowd) front_out(office, person) is_front_out(office, person, thing)",
    "looks": "looked(office, crowd, state, person) looked_through(office, crowd, state, row) most_looks(office, crowd) "
             "is_quiet(office, crowd, thing) is_looks(office, crowd, thing)",
    "chances": "chances(book, crowd) outcomes_by_lot(book, crowd) mean_number(book, crowd)",
    "asking": "asked_least(book) asking_tree(book) is_asking_tree(book, most, thing)",
    "kinds": "entered(kinds, row) entered_counts(kinds, row) counts_after(kinds, row, times) unlike_row(one, other) "
             "passing_row(kinds, a, b) may_pass(kinds, a, b)",
    "closed": "steady_kinds(kinds) is_called_back(kinds, thing) called_back(kinds) steady_table(kinds)",
    "halls": "seated(halls, crowd) housed(halls, crowd) halls_parting(one, other) as_one(halls) bar_to_one(halls)",
    "editions": "with_lot(book, lot) without_lot(book, number) raised(office, person, place) named(office, order) "
                "harmed(one, other)",
    "texts": "book_text(book) office_text(office)",
    "reading": "read_book(text) read_office(text)",
    "ruletexts": "rules_text(people, rules) read_rules(people, text)",
}
CLASSES = {
    "books": "Book(people, lots)",
    "offices": "Office(book, order)",
    "kinds": "Kinds(many, lots)",
    "doors": "Door(office)",
    "errors": "BadBook(part, at) BadOffice(part) BadKinds(part, at) BadText(line) TooMany(most) NoName(name)",
}
# What else stands in the body of each class, with its arguments behind the object itself.
METHODS = {
    "doors Door": "come(person) leave(person) move(person, place) bar(lot) there() inside() outside() office() news() "
                  "back() deeds() copy() trying(action)",
    "desk Desk": "tell(line) undoable()",
}
PLAIN_ERRORS = (
    "NoPeople NoHeaps NoCrowd NoRules NoPerson OtherPeople OtherBook OtherKinds NoPlace NoNumber NoList NoTable NoPair NoRow "
    "NoSightings NoChooser NotSteady NoCrowds NoState NoLooks NoKinds NoKind NoHalls NoLot IsThere NotThere NothingDone NoLine")


def parts(text):
    """The pairs of a name and its arguments."""
    found = []
    for piece in text.split(")"):
        if piece:
            name, arguments = piece.strip().split("(")
            found.append((name, arguments.split(", ") if arguments else []))
    return found


class InterfaceTest(unittest.TestCase):
    def stand_there(self, listed, is_kind):
        for file, text in listed.items():
            module = importlib.import_module("lastoflot." + file)
            for name, arguments in parts(text):
                thing = getattr(module, name)
                self.assertTrue(is_kind(thing), name)
                self.assertEqual(thing.__module__, "lastoflot." + file)
                self.assertEqual(list(inspect.signature(thing).parameters), arguments, name)

    def test_functions(self):
        self.stand_there(INTERFACE, inspect.isfunction)

    def test_classes(self):
        self.stand_there(CLASSES, inspect.isclass)

    def test_equality_is_their_own(self):
        for file, name in (("books", "Book"), ("offices", "Office"), ("kinds", "Kinds")):
            kind = getattr(importlib.import_module("lastoflot." + file), name)
            self.assertIn("__eq__", vars(kind))

    def test_methods(self):
        for place, text in METHODS.items():
            file, kind = place.split()
            body = vars(getattr(importlib.import_module("lastoflot." + file), kind))
            for name, arguments in parts(text):
                self.assertEqual(list(inspect.signature(body[name]).parameters), ["self", *arguments], name)

    def test_made_without_arguments(self):
        module = importlib.import_module("lastoflot.errors")
        for name in PLAIN_ERRORS.split():
            error = getattr(module, name)
            self.assertEqual(error.__module__, "lastoflot.errors")
            self.assertEqual((error.__bases__, vars(error())), ((module.LotError,), {}))
        self.assertEqual(vars(importlib.import_module("lastoflot.desk").Desk)["__init__"].__code__.co_argcount, 1)

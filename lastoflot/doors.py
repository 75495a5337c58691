"""A door that is led deed by deed."""

from lastoflot.crowds import crowd_of, has
from lastoflot.editions import raised, with_lot
from lastoflot.errors import IsThere, NotThere, NothingDone
from lastoflot.offices import Office, bits_in, check_person


class Door:
    """An office and those who are there; each deed can be taken back."""

    def __init__(self, office):
        self.held = office
        self.here = 0
        # What was held, and who was there, ahead of each deed that is not taken back.
        self.past = []

    def come(self, person):
        """A person comes."""
        check_person(self.held.book.people, person)
        if has(self.here, person):
            raise IsThere()
        self.go_on(self.held, self.here | (1 << person))

    def leave(self, person):
        """A person goes."""
        check_person(self.held.book.people, person)
        if not has(self.here, person):
            raise NotThere()
        self.go_on(self.held, self.here ^ (1 << person))

    def move(self, person, place):
        """A person is put at a place in the list."""
        self.go_on(raised(self.held, person, place), self.here)

    def bar(self, lot):
        """One lot more cannot all be in together."""
        self.go_on(Office(with_lot(self.held.book, lot), self.held.order), self.here)

    def go_on(self, office, here):
        """What is held and who is there from now on."""
        self.past.append((self.held, self.here))
        self.held = office
        self.here = here

    def there(self):
        """The crowd of those who are there."""
        return crowd_of(self.here)

    def inside(self):
        """The crowd of those let in."""
        return crowd_of(bits_in(self.held, self.here))

    def outside(self):
        """The crowd of those who are there, but not let in."""
        return crowd_of(self.here ^ bits_in(self.held, self.here))

    def office(self):
        """The office by which people are let in now."""
        return self.held

    def news(self):
        """The crowds of those who are inside since the last deed, and of those who are not any more."""
        now = bits_in(self.held, self.here)
        before = now
        if len(self.past) > 0:
            held, here = self.past[-1]
            before = bits_in(held, here)
        both = now & before
        return (crowd_of(now ^ both), crowd_of(before ^ both))

    def back(self):
        """Takes back the last deed that is not taken back."""
        if len(self.past) == 0:
            raise NothingDone()
        self.held, self.here = self.past.pop()

    def deeds(self):
        """How many deeds can be taken back."""
        return len(self.past)

    def copy(self):
        """Another door that goes on apart, and can go back likewise."""
        other = Door(self.held)
        other.here = self.here
        other.past = list(self.past)
        return other

    def trying(self, action):
        """What a function returns that is called with this door, everything then being as it was."""
        held = self.held
        here = self.here
        past = list(self.past)
        try:
            return action(self)
        finally:
            self.held, self.here, self.past = held, here, past

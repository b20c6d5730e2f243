"""Whole numbers, tuples of these, and things that are numbered as they come."""


def is_count(thing):
    """Whether a thing is a whole number from 0 on; True and False are none."""
    return isinstance(thing, int) and not isinstance(thing, bool) and thing >= 0


def is_below(many, thing):
    """Whether a thing is a whole number from 0 on, below another one."""
    return is_count(thing) and thing < many


def are_below(many, thing, least, most):
    """Whether a thing is a tuple of numbers below another one, at least so many and at most so many."""
    if not isinstance(thing, tuple) or not least <= len(thing) <= most:
        return False
    return all(is_below(many, number) for number in thing)


def are_rising(many, thing):
    """Whether a thing is a tuple of rising numbers below another one."""
    if not are_below(many, thing, 0, many):
        return False
    return all(one < other for one, other in zip(thing, thing[1:]))


class Numbered:
    """Things that are numbered as they come, from 0 on."""

    def __init__(self, first):
        self.things = [first]
        self.numbers = {first: 0}

    def number_of(self, thing):
        """The number of a thing; a new one is put behind the others."""
        if thing not in self.numbers:
            self.numbers[thing] = len(self.things)
            self.things.append(thing)
        return self.numbers[thing]

"""Names, and pairs by which they are told otherwise."""

from wishkeep.errors import BadName

SMALL_LETTERS = "abcdefghijklmnopqrstuvwxyz"
MOST_LETTERS = 6
WORDS = (
    "yes", "no", "not", "and", "or", "before", "since", "was",
    "given", "wanted", "always", "again", "comes", "answers",
)


def is_name(thing):
    """Whether a thing is a name."""
    if not isinstance(thing, str) or not 1 <= len(thing) <= MOST_LETTERS:
        return False
    return thing not in WORDS and all(sign in SMALL_LETTERS for sign in thing)


def need_name(thing):
    """Refuses what is no name."""
    if not is_name(thing):
        raise BadName("no name")


def all_unlike(names):
    """Whether no name stands twice among some."""
    return len(set(names)) == len(names)


def is_pair(thing):
    """Whether a thing is a pair of names."""
    return isinstance(thing, tuple) and len(thing) == 2 and is_name(thing[0]) and is_name(thing[1])


def are_pairs(thing):
    """Whether a thing is pairs by which names are told otherwise."""
    if not isinstance(thing, tuple) or not all(is_pair(pair) for pair in thing):
        return False
    return all_unlike([pair[0] for pair in thing]) and all_unlike([pair[1] for pair in thing])


def need_pairs(thing):
    """Refuses what is no such pairs."""
    if not are_pairs(thing):
        raise BadName("no pairs of names")


def name_by(pairs, name):
    """What the pairs tell for a name; it stays if none does."""
    for old, new in pairs:
        if old == name:
            return new
    return name

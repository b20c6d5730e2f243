"""Wishes of time, and their parts."""

from wishkeep.boards import is_one_of
from wishkeep.errors import BadWish
from wishkeep.names import is_name, name_by, need_pairs

MOST_PARTS = 60
MOST_DEEP = 20
# How many wishes each word has behind it; a sign has a name there instead.
WISHES_BEHIND = {"yes": 0, "no": 0, "not": 1, "before": 1, "was": 1, "and": 2, "or": 2, "since": 2}
LOOKS_BACK = ("before", "was", "since")


def has_form(thing):
    """Whether a thing is a word with as many parts as it has, whatever these are."""
    if not isinstance(thing, tuple) or len(thing) == 0 or not isinstance(thing[0], str):
        return False
    if thing[0] == "sign":
        return len(thing) == 2 and is_name(thing[1])
    return thing[0] in WISHES_BEHIND and len(thing) == 1 + WISHES_BEHIND[thing[0]]


def inner_of(wish):
    """The wishes right within a wish."""
    if wish[0] == "sign":
        return ()
    return wish[1:]


def is_wish(thing):
    """Whether a thing is a wish."""
    waiting = [(thing, 1)]
    seen = 0
    while len(waiting) > 0:
        part, deep = waiting.pop()
        seen += 1
        # Left at once: what is handed in may be far deeper, or have far more parts, than can be gone through.
        if seen > MOST_PARTS or deep > MOST_DEEP or not has_form(part):
            return False
        waiting.extend([(inner, deep + 1) for inner in inner_of(part)])
    return True


def need_wish(thing):
    """Refuses what is no wish."""
    if not is_wish(thing):
        raise BadWish("no wish")


def is_wish_of(board, thing):
    """Whether a thing is a wish of a board's names alone."""
    names = board[0] + board[1]
    return is_wish(thing) and all(is_one_of(names, name) for name in signs_of(thing))


def need_wish_of(board, thing):
    """Refuses what is no wish of a board's names alone."""
    if not is_wish_of(board, thing):
        raise BadWish("no wish of this board")


def gather_parts(wish, found):
    """Puts those parts of a wish that found hasn't yet behind it, as they come to their ends."""
    if wish in found:
        return
    for part in inner_of(wish):
        gather_parts(part, found)
    found.append(wish)


def parts_within(wish):
    """The unlike parts of a wish, as they first come to their ends."""
    found = []
    gather_parts(wish, found)
    return found


def many_parts(wish):
    """How many parts a wish has, each as often as it stands."""
    return 1 + sum([many_parts(part) for part in inner_of(wish)])


def deep_of(wish):
    """How deep a wish is."""
    return 1 + max([deep_of(part) for part in inner_of(wish)], default=0)


def signs_of(wish):
    """The names in a wish, rising."""
    return tuple(sorted({part[1] for part in parts_within(wish) if part[0] == "sign"}))


def is_look(wish):
    """Whether a wish's own word looks back."""
    return wish[0] in LOOKS_BACK


def told_otherwise(wish, pairs):
    """A wish by other names, the pairs being good ones."""
    if wish[0] == "sign":
        return ("sign", name_by(pairs, wish[1]))
    return wish[:1] + tuple([told_otherwise(part, pairs) for part in wish[1:]])


def renamed(wish, pairs):
    """A wish, its names told otherwise by pairs."""
    need_pairs(pairs)
    return told_otherwise(wish, pairs)

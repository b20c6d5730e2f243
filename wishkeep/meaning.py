"""What wishes mean along turns, and whether loops keep tasks."""

from wishkeep.boards import has_bit, need_loop, place_of
from wishkeep.wishes import inner_of, is_look


def since_along(holding, beginning):
    """The values of a since, by those of its two sides."""
    values = []
    held = False
    for holds, begins in zip(holding, beginning):
        held = begins or (holds and held)
        values.append(held)
    return values


def sign_along(board, name, turns):
    """The values of a sign along turns."""
    side, place = place_of(board, name)
    return [has_bit(turn[side], place) for turn in turns]


def values_along(board, wish, turns):
    """The values of a wish along turns."""
    word = wish[0]
    if word == "sign":
        return sign_along(board, wish[1], turns)
    inner = [values_along(board, part, turns) for part in inner_of(wish)]
    if word == "not":
        return [not value for value in inner[0]]
    if word == "and":
        return [one and other for one, other in zip(inner[0], inner[1])]
    if word == "or":
        return [one or other for one, other in zip(inner[0], inner[1])]
    if word == "before":
        return ([False] + inner[0])[:len(turns)]
    if word == "was":
        return since_along([True] * len(turns), inner[0])
    if word == "since":
        return since_along(inner[0], inner[1])
    return [word == "yes"] * len(turns)


def looks_deep(wish):
    """How many looks stand within one another at most."""
    deepest = max([looks_deep(part) for part in inner_of(wish)], default=0)
    return deepest + 1 if is_look(wish) else deepest


def values_on(board, wish, loop):
    """The values of a wish along a loop until all goes on alike: those of the last round come again without end."""
    stem, again = loop
    # When all within a look goes on alike, then whatever the look kept ahead of a round,
    # it keeps the same behind that one and all later ones: so it goes on alike one round later.
    return values_along(board, wish, stem + again * (1 + looks_deep(wish)))


def holds_always(board, wish, loop):
    """Whether a wish holds at every moment of a loop."""
    need_loop(board, loop)
    return all(values_on(board, wish, loop))


def holds_again(board, wish, loop):
    """Whether a wish holds at moments without end of a loop."""
    need_loop(board, loop)
    values = values_on(board, wish, loop)
    return any(values[len(values) - len(loop[1]):])


def row_holds(board, row, loop):
    """Whether a row holds on a loop."""
    if row[1] == "always":
        return holds_always(board, row[2], loop)
    return holds_again(board, row[2], loop)


def rows_failed(task, loop):
    """The numbers, from 0, of a task's rows that don't hold on a loop."""
    board, rows = task
    need_loop(board, loop)
    return [place for place, row in enumerate(rows) if not row_holds(board, row, loop)]


def is_kept(task, loop):
    """Whether a loop keeps a task."""
    sides = [task[1][place][0] for place in rows_failed(task, loop)]
    return "given" in sides or "wanted" not in sides

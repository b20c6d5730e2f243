"""Tasks told together, and without some of their rows."""

from wishkeep.counts import are_rising
from wishkeep.errors import BadBoard, BadNumber, TooGreat
from wishkeep.tasks import MOST_ROWS, need_task


def together(task, other):
    """One task of the rows of two, each that the first one hasn't told once."""
    need_task(task)
    need_task(other)
    board, rows = task
    if other[0] != board:
        raise BadBoard("another board")
    found = list(rows)
    for row in other[1]:
        if row not in found:
            found.append(row)
    if len(found) > MOST_ROWS:
        raise TooGreat("more rows than a task has")
    joined = (board, tuple(found))
    need_task(joined)
    return joined


def without(task, places):
    """A task without the rows at some places."""
    need_task(task)
    board, rows = task
    if not are_rising(len(rows), places):
        raise BadNumber("no rising places of rows")
    return (board, tuple([row for place, row in enumerate(rows) if place not in places]))

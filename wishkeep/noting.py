"""Texts of machines, plans and papers, written and read."""

from wishkeep.errors import BadText
from wishkeep.machines import is_room
from wishkeep.plans import is_plan_room
from wishkeep.reading import need_text
from wishkeep.runs import MOST_ROOMS

FIGURES = "0123456789"
MOST_FIGURES = 9
# The heads of blocks, the first one's and each other one's, and how many words stand in their rows.
MACHINE_BLOCKS = (("goal", 4), ("goal", 4))
PLAN_BLOCKS = (("rows", 4), ("counts", 3))


def machine_text(machine):
    """The text of a machine."""
    return "\n".join([", ".join([f"{answered} {behind}" for answered, behind in room]) for room in machine])


def plan_text(plan):
    """The text of a plan."""
    return "\n".join([" ".join([f"{came} :"] + [str(behind) for behind in rooms]) for came, rooms in plan])


def position_text(position):
    """The word of a position."""
    memory, given, wanted = position
    return "".join(["1" if truth else "0" for truth in memory + (given, wanted)])


def row_text(row):
    """The text of a paper's row."""
    return " ".join([str(row[0]), position_text(row[1])] + [str(number) for number in row[2:]])


def block_text(head, rows):
    """The text of a head and the rows behind it."""
    return "\n".join([head] + [row_text(row) for row in rows])


def papers_text(papers):
    """The text of a machine's papers."""
    return "\n".join([block_text("goal", rows) for rows in papers])


def plan_papers_text(papers):
    """The text of a plan's papers."""
    rows, counts = papers
    return "\n".join([block_text("rows", rows)] + [block_text("counts", some) for some in counts])


def number_in(word):
    """The number of a word; None if it is none."""
    if not 1 <= len(word) <= MOST_FIGURES or not all(sign in FIGURES for sign in word):
        return None
    if word[0] == "0" and len(word) > 1:
        return None
    return int(word)


def numbers_in(words):
    """The numbers of words, each of them None if it is none."""
    return tuple([number_in(word) for word in words])


def position_in(word):
    """The position of a word; None if it is none."""
    if len(word) < 2 or not all(sign in "01" for sign in word):
        return None
    truths = tuple([sign == "1" for sign in word])
    return (truths[:-2],) + truths[-2:]


def machine_room_in(board, many, row):
    """The room, one of so many of a machine, that a row tells; None if it is none."""
    room = tuple([numbers_in(piece.split(" ")) for piece in row.split(", ")])
    return room if is_room(board, many, room) else None


def plan_room_in(board, many, row):
    """The room, one of so many of a plan, that a row tells; None if it is none."""
    words = row.split(" ")
    room = (number_in(words[0]), numbers_in(words[2:]))
    return room if words[1:2] == [":"] and is_plan_room(board, many, room) else None


def read_rooms(room_in, board, text):
    """The rooms that a text's rows tell, by what reads one of them."""
    need_text(text)
    rows = text.split("\n")
    rooms = []
    for row in rows:
        room = room_in(board, len(rows), row)
        if room is None or len(rooms) == MOST_ROOMS:
            raise BadText(len(rooms) + 1, 0)
        rooms.append(room)
    return tuple(rooms)


def read_machine(board, text):
    """The machine of a text."""
    return read_rooms(machine_room_in, board, text)


def read_plan(board, text):
    """The plan of a text."""
    return read_rooms(plan_room_in, board, text)


def paper_row_in(many, row):
    """The row of a paper, of so many words, that a text's row tells; None if it is none."""
    words = row.split(" ")
    if len(words) != many:
        return None
    told = (number_in(words[0]), position_in(words[1])) + numbers_in(words[2:])
    return None if None in told else told


def read_blocks(kinds, text):
    """The blocks of rows that a text tells, by their heads and how many words stand in their rows."""
    need_text(text)
    blocks = []
    width = 0
    for place, row in enumerate(text.split("\n")):
        head, its_width = kinds[min(len(blocks), 1)]
        if row == head:
            blocks.append([])
            width = its_width
            continue
        told = paper_row_in(width, row)
        if told is None:
            raise BadText(place + 1, 0)
        blocks[-1].append(told)
    return tuple([tuple(rows) for rows in blocks])


def read_papers(text):
    """A machine's papers of a text."""
    return read_blocks(MACHINE_BLOCKS, text)


def read_plan_papers(text):
    """A plan's papers of a text."""
    blocks = read_blocks(PLAN_BLOCKS, text)
    if len(blocks) == 1:
        raise BadText(len(text.split("\n")) + 1, 0)
    return (blocks[0], blocks[1:])

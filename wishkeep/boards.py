"""Boards, and the letters, turns and loops of these."""

from wishkeep.counts import is_below, is_count
from wishkeep.errors import BadBoard, BadLetter, BadLoop, BadName, BadNumber, BadTurn
from wishkeep.names import all_unlike, is_name

MOST_NAMES = 3
MOST_TURNS = 200


def is_side(thing):
    """Whether a thing is a tuple of as many names as a board has on one side."""
    return isinstance(thing, tuple) and len(thing) <= MOST_NAMES and all(is_name(name) for name in thing)


def is_board(thing):
    """Whether a thing is a board."""
    if not isinstance(thing, tuple) or len(thing) != 2:
        return False
    return is_side(thing[0]) and is_side(thing[1]) and all_unlike(thing[0] + thing[1])


def need_board(thing):
    """Refuses what is no board."""
    if not is_board(thing):
        raise BadBoard("no board")


def letters_of(names):
    """How many letters some names have."""
    return 1 << len(names)


def is_letter(names, thing):
    """Whether a thing is a letter of some names."""
    return is_below(letters_of(names), thing)


def need_letter(names, thing):
    """Refuses what is no letter of some names."""
    if not is_letter(names, thing):
        raise BadLetter("no letter of these names")


def has_bit(letter, place):
    """Whether the name at a place is so."""
    return (letter >> place) & 1 == 1


def is_one_of(names, thing):
    """Whether a thing is one of some names."""
    return isinstance(thing, str) and thing in names


def letter_of(names, some):
    """The letter at which just some of the names are so."""
    if not isinstance(some, tuple) or not all(is_one_of(names, name) for name in some):
        raise BadLetter("no tuple of some of these names")
    return sum([1 << place for place, name in enumerate(names) if name in some])


def some_of(names, letter):
    """Those of the names that are so at a letter."""
    need_letter(names, letter)
    return tuple([name for place, name in enumerate(names) if has_bit(letter, place)])


def is_turn(board, thing):
    """Whether a thing is a turn of a board."""
    if not isinstance(thing, tuple) or len(thing) != 2:
        return False
    return is_letter(board[0], thing[0]) and is_letter(board[1], thing[1])


def need_turn(board, thing):
    """Refuses what is no turn of a board."""
    if not is_turn(board, thing):
        raise BadTurn("no turn of this board")


def all_turns(board):
    """All turns of a board, rising."""
    comes, answers = board
    return [(came, answered) for came in range(letters_of(comes)) for answered in range(letters_of(answers))]


def place_of(board, name):
    """Where a name stands on a board: its side, 0 or 1, and its place there."""
    for side, names in enumerate(board):
        if is_one_of(names, name):
            return (side, names.index(name))
    raise BadName("no name of this board")


def is_so(board, turn, name):
    """Whether a name of the board is so at a turn."""
    side, place = place_of(board, name)
    return has_bit(turn[side], place)


def are_turns(board, thing, least):
    """Whether a thing is a tuple of turns, at least so many and not more than a loop has."""
    if not isinstance(thing, tuple) or not least <= len(thing) <= MOST_TURNS:
        return False
    return all(is_turn(board, turn) for turn in thing)


def is_loop(board, thing):
    """Whether a thing is a loop of a board."""
    if not isinstance(thing, tuple) or len(thing) != 2:
        return False
    return are_turns(board, thing[0], 0) and are_turns(board, thing[1], 1)


def need_loop(board, thing):
    """Refuses what is no loop of a board."""
    if not is_loop(board, thing):
        raise BadLoop("no loop of this board")


def turn_at(loop, moment):
    """The turn of a loop at a moment, from 0."""
    if not is_count(moment):
        raise BadNumber("no moment")
    stem, again = loop
    if moment < len(stem):
        return stem[moment]
    return again[(moment - len(stem)) % len(again)]


def shortest_round(turns):
    """The shortest round that goes on as these turns do, over and over."""
    many = len(turns)
    for length in range(1, many):
        # The shortest length always divides every other one.
        if many % length == 0 and turns[length:] == turns[:many - length]:
            return turns[:length]
    return turns


def lean(loop):
    """The lean loop of the same endless row."""
    stem, again = loop
    again = shortest_round(again)
    many = len(again)
    # As far as the stem's end is like the round turned back, it is a piece of the round.
    alike = 0
    while alike < len(stem) and stem[-1 - alike] == again[-1 - alike % many]:
        alike += 1
    cut = many - alike % many
    return (stem[:len(stem) - alike], again[cut:] + again[:cut])


def are_one(one, other):
    """Whether two loops are one endless row."""
    return lean(one) == lean(other)

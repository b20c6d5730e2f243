"""Texts of wishes, tasks, turns and loops read."""

from wishkeep.boards import MOST_NAMES, MOST_TURNS, all_turns
from wishkeep.errors import BadText, TooGreat
from wishkeep.names import is_name
from wishkeep.phrases import Phrase
from wishkeep.tasks import HOWS, MOST_ROWS, SIDES, is_task, need_task
from wishkeep.wishes import is_wish
from wishkeep.words import pieces_in, words_in
from wishkeep.writing import turn_text


def need_text(thing):
    """Refuses what is no text."""
    if not isinstance(thing, str):
        raise BadText(1, 0)


def wish_in(line, row, words, names):
    """The wish, whatever its size, of some words at the end of a row with this number."""
    phrase = Phrase(names)
    for at, word in words:
        if not phrase.fits(word):
            raise BadText(line, at)
        phrase.take(word)
    if not phrase.is_whole():
        raise BadText(line, len(row))
    return phrase.whole()


def wish_of(text):
    """The wish of a text."""
    need_text(text)
    wish = wish_in(1, text, words_in(text), None)
    if not is_wish(wish):
        # What was read has a wish's form, so just its size is wrong.
        raise TooGreat("more than 60 parts, or 20 deep")
    return wish


def rows_in(text):
    """The rows of a text that aren't empty: their numbers, from 1, themselves and their words."""
    found = []
    for place, row in enumerate(text.split("\n")):
        words = words_in(row)
        if len(words) > 0:
            found.append((place + 1, row, words))
    return found


def need_rows(text, rows, many):
    """Refuses a text of fewer rows that aren't empty."""
    if len(rows) < many:
        lines = text.split("\n")
        raise BadText(len(lines), len(lines[-1]))


def names_in(line, words, head, known):
    """The names behind a row's head, none of them known already."""
    if words[0][1] != head:
        raise BadText(line, words[0][0])
    names = ()
    for at, word in words[1:]:
        if len(names) == MOST_NAMES or not is_name(word) or word in known + names:
            raise BadText(line, at)
        names = names + (word,)
    return names


def board_in(text, rows):
    """The board of a task's first two rows."""
    need_rows(text, rows, 1)
    comes = names_in(rows[0][0], rows[0][2], "comes", ())
    need_rows(text, rows, 2)
    answers = names_in(rows[1][0], rows[1][2], "answers", comes)
    return (comes, answers)


def row_in(line, row, words, board):
    """The row of a task, its wish of whatever size."""
    for place, choices in enumerate((SIDES, HOWS)):
        if place == len(words):
            raise BadText(line, len(row))
        at, word = words[place]
        if word not in choices:
            raise BadText(line, at)
    return (words[0][1], words[1][1], wish_in(line, row, words[2:], board[0] + board[1]))


def task_of(text):
    """The task of a text."""
    need_text(text)
    written = rows_in(text)
    board = board_in(text, written)
    rows = []
    for line, row, words in written[2:]:
        if len(rows) == MOST_ROWS:
            raise BadText(line, words[0][0])
        rows.append(row_in(line, row, words, board))
    task = (board, tuple(rows))
    if not is_task(task):
        # What was read has a task's form, so just a wish's size is wrong.
        raise TooGreat("a wish of more than 60 parts, or 20 deep")
    need_task(task)
    return task


def turns_by_text(board):
    """All turns of a board by their texts."""
    return {turn_text(board, turn): turn for turn in all_turns(board)}


def turn_of(board, text):
    """The turn of a text."""
    need_text(text)
    turns = turns_by_text(board)
    piece = text.strip(" ")
    if piece not in turns:
        raise BadText(1, 0)
    return turns[piece]


def loop_of(board, text):
    """The loop of a text."""
    need_text(text)
    turns = turns_by_text(board)
    sides = [[]]
    for at, piece in pieces_in(text):
        if piece == "|" and len(sides) == 1:
            sides.append([])
        elif piece in turns and len(sides[-1]) < MOST_TURNS:
            sides[-1].append(turns[piece])
        else:
            raise BadText(1, at)
    if len(sides) == 1 or len(sides[1]) == 0:
        raise BadText(1, len(text))
    return (tuple(sides[0]), tuple(sides[1]))

"""Wishes, tasks, letters, turns and loops written as texts."""

from wishkeep.boards import some_of
from wishkeep.tasks import need_task
from wishkeep.wishes import need_wish
from wishkeep.words import CLOSE, CLOSEST

# How close what stands on either side of a word must bind to need no brackets:
# ands and ors side by side are read from the left, and no side of a since is a since.
CLOSE_AHEAD = {"or": 1, "and": 2, "since": 4}
CLOSE_BEHIND = {"or": 2, "and": 3, "since": 4}


def wish_text(wish):
    """The text of a wish."""
    need_wish(wish)
    return phrase_of(wish)


def phrase_of(wish):
    """The text of a good wish."""
    word = wish[0]
    if word == "sign":
        return wish[1]
    if len(wish) == 1:
        return word
    if len(wish) == 2:
        return f"{word} {side_of(wish[1], CLOSEST)}"
    return f"{side_of(wish[1], CLOSE_AHEAD[word])} {word} {side_of(wish[2], CLOSE_BEHIND[word])}"


def side_of(wish, close):
    """The text of a wish beside a word that wants it to bind so close, in brackets if it doesn't."""
    if CLOSE.get(wish[0], CLOSEST) < close:
        return f"({phrase_of(wish)})"
    return phrase_of(wish)


def task_text(task):
    """The text of a task."""
    need_task(task)
    board, rows = task
    written = [" ".join(("comes",) + board[0]), " ".join(("answers",) + board[1])]
    written.extend([f"{side} {how} {phrase_of(wish)}" for side, how, wish in rows])
    return "\n".join(written)


def letter_text(names, letter):
    """The text of a letter of some names."""
    some = some_of(names, letter)
    if len(some) == 0:
        return "-"
    return "+".join(some)


def turn_text(board, turn):
    """The text of a turn."""
    return f"{letter_text(board[0], turn[0])}/{letter_text(board[1], turn[1])}"


def loop_text(board, loop):
    """The text of a loop as it is handed in, lean or not."""
    stem, again = loop
    words = [turn_text(board, turn) for turn in stem]
    words.append("|")
    words.extend([turn_text(board, turn) for turn in again])
    return " ".join(words)

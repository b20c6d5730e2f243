"""The words of lines, each with its place, and how close those of wishes bind."""

from wishkeep.names import SMALL_LETTERS

# A word that isn't here has all that it wants in itself.
CLOSE = {"or": 1, "and": 2, "since": 3, "not": 4, "before": 4, "was": 4}
LEAST_CLOSE = 1
CLOSEST = 4


def word_end(line, begin):
    """Where the word that begins at a place ends; a bracket, or a sign that is in no word, stands alone."""
    end = begin
    while end < len(line) and line[end] in SMALL_LETTERS:
        end += 1
    return max(end, begin + 1)


def words_in(line):
    """The words, and the signs that are in none, of a line: pairs of a place and a text."""
    found = []
    at = 0
    while at < len(line):
        end = word_end(line, at)
        if line[at] != " ":
            found.append((at, line[at:end]))
        at = end
    return found


def pieces_in(line):
    """What stands between blanks in a line: pairs of a place and a text."""
    found = []
    at = 0
    for piece in line.split(" "):
        if piece != "":
            found.append((at, piece))
        at += len(piece) + 1
    return found

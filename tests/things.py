"""Things of many kinds, and rows of numbers that are the same each time."""


class Alike:
    """A thing that says that it is like each other one."""

    def __eq__(self, other):
        return True


class Refusing:
    """A thing that lets nobody compare or measure it."""

    def __eq__(self, other):
        raise RuntimeError("compared")

    def __len__(self):
        raise RuntimeError("measured")


def nested(many, wrap):
    """As many things within one another."""
    thing = wrap(None)
    for _ in range(many - 1):
        thing = wrap(thing)
    return thing


def mixed(many):
    """Lists, tuples and dicts within one another by turns."""
    wraps = (lambda thing: [thing], lambda thing: (thing,), lambda thing: {"a": thing})
    thing = None
    for k in range(many):
        thing = wraps[k % 3](thing)
    return thing


def deep_things():
    """Seven hundred things within one another."""
    return [
        nested(700, lambda thing: [thing]),
        nested(700, lambda thing: (thing,)),
        nested(700, lambda thing: {"a": thing}),
        nested(700, lambda thing: (thing, thing)),
        nested(700, lambda thing: [thing, thing]),
        nested(700, lambda thing: ("not", thing)),
        nested(700, lambda thing: ("and", thing, thing)),
        nested(700, lambda thing: ("given", "always", thing)),
        mixed(700),
    ]


def kinds():
    """Things of all kinds, none of which is a text, a number from 0 on or a tuple with anything in it."""
    return [
        None, True, False, -1, -(10 ** 30), [], {}, b"", b"a", b"yes", ["a"], [0], [[], []], ["yes"],
        {"a": "b"}, {0: 1}, {"a"}, set(), frozenset(), object(), object, len, Alike(), Refusing(), range(2), iter(()),
        ["sign", "a"], [("a", "b")], [(), ()], [(0, 0)], [("given", "always", ("yes",))],
    ] + deep_things()


def odd():
    """Things of all kinds, none of which is a name, or a tuple of what is wanted anywhere."""
    return kinds() + [
        "", " ", "A", "a b", "yes", "given", "abcdefg", "a1", "\n", "~", "\u00e9", 10 ** 30, (None,),
        (True,), (False, False), (((),),), ("A",), ("a", "b", "yes"), (("A",), ("a",)), ("sign", "A"), ("a", ()),
        ((), "a"), ("yes", "yes"), ((0, 0), (True, 0)), ({},), ([],), ("given", "always"),
    ]


def wrong_numbers(many):
    """Things that are no whole numbers from 0 on, below another one."""
    return [many, many + 1, -1, 10 ** 30, True, False, None, "0", (0,), [0], 0.0]


def wrong_runs():
    """Things that are no runs of two letters."""
    wrong = [(0, 1, letter) for letter in wrong_numbers(2)] + [(letter,) for letter in wrong_numbers(2)]
    return wrong + odd() + [(thing,) for thing in odd()] + [[0, 1], "01", b"01", {0: 1}, 0, 1, (0,) * 10001]


def wrong_cycles():
    """Things that are no cycles of two letters."""
    wrong = [((), ()), ((), [0]), [(), (0,)], ([], (0,)), ((0,),), ((), (0,), (0,)), (0, 0), ((), 0), (), "| 0"]
    wrong += [((), (letter,)) for letter in wrong_numbers(2)] + [((letter,), (0,)) for letter in wrong_numbers(2)]
    wrong += [((0,) * 201, (0,)), ((), (0,) * 201), ((), (0,) * 200 + (5,)), ((0,) * 200, ()), ((2,), ())]
    wrong += [((), (thing,)) for thing in odd()] + [((thing,), (0,)) for thing in odd()]
    return wrong + [((), thing) for thing in odd()] + [(thing, (0,)) for thing in odd()] + odd()


class Numbers:
    """Numbers that look like chance and are the same each time."""

    def __init__(self, seed):
        self.state = seed

    def below(self, many):
        self.state = (self.state * 6364136223846793005 + 1442695040888963407) % 2 ** 64
        return (self.state >> 33) % many

    def one_of(self, things):
        return things[self.below(len(things))]


NONE_BEHIND = ("yes", "no")
ONE_BEHIND = ("not", "before", "was")
TWO_BEHIND = ("and", "or", "since")


def some_wish(numbers, names, deep):
    """A wish of these names, at most so deep."""
    kind = numbers.below(8)
    if deep == 1 or kind == 0:
        if not names or numbers.below(5) == 0:
            return (numbers.one_of(NONE_BEHIND),)
        return ("sign", numbers.one_of(names))
    if kind < 4:
        return (numbers.one_of(ONE_BEHIND), some_wish(numbers, names, deep - 1))
    word = numbers.one_of(TWO_BEHIND)
    return (word, some_wish(numbers, names, deep - 1), some_wish(numbers, names, deep - 1))


def ends_of(wish):
    """All parts, as they come to their ends, each as often as it stands."""
    if wish[0] == "sign":
        return [wish]
    return [end for part in wish[1:] for end in ends_of(part)] + [wish]


def chain(word, many, end=("yes",)):
    """A wish of one word, so many times within one another."""
    for _ in range(many):
        end = (word, end)
    return end


def left(word, parts):
    """Wishes with one word between, the first two together."""
    wish = parts[0]
    for part in parts[1:]:
        wish = (word, wish, part)
    return wish


def right(word, parts):
    """Wishes with one word between, the last two together."""
    wish = parts[-1]
    for part in reversed(parts[:-1]):
        wish = (word, part, wish)
    return wish


def wide(parts):
    """A wish of ands of just so many parts, few of them within one another; an even number has one not."""
    waiting = [("yes",)] * ((parts + 1) // 2)
    while len(waiting) > 1:
        waiting = [
            ("and", waiting[k], waiting[k + 1]) if k + 1 < len(waiting) else waiting[k]
            for k in range(0, len(waiting), 2)
        ]
    if parts % 2 == 0:
        # (parts + 1) // 2 leaves make parts - 1 parts then.
        return ("not", waiting[0])
    return waiting[0]


def some_task(numbers, board, many, deep):
    """A task of so many rows, whose wishes are at most so deep."""
    names = board[0] + board[1]
    return (board, tuple(
        (numbers.one_of(("given", "wanted")), numbers.one_of(("always", "again")), some_wish(numbers, names, deep))
        for _ in range(many)
    ))


def some_machine(numbers, board, many):
    """A machine of so many rooms."""
    comes, answers = [2 ** len(names) for names in board]
    return tuple(
        tuple((numbers.below(answers), numbers.below(many)) for _ in range(comes)) for _ in range(many)
    )


def some_plan(numbers, board, many):
    """A plan of so many rooms."""
    comes, answers = [2 ** len(names) for names in board]
    return tuple(
        (numbers.below(comes), tuple(numbers.below(many) for _ in range(answers))) for _ in range(many)
    )


def some_letters(numbers, many, length):
    """A row of letters, of which there are so many."""
    return tuple(numbers.below(many) for _ in range(length))


def some_goals(numbers, many, often):
    """Rising numbers of goals, of which there are so many, each of them so often of eight times."""
    return tuple(goal for goal in range(many) if numbers.below(8) < often)


def some_arena(numbers, sizes, letters, often):
    """An arena of so many places, given and wanted goals, letters on either side, goals met so often of eight times."""
    many, given, wanted = sizes
    return (tuple(
        tuple(
            tuple(
                (numbers.below(many), some_goals(numbers, given, often[0]), some_goals(numbers, wanted, often[1]))
                for _ in range(1 + numbers.below(letters[1]))
            )
            for _ in range(1 + numbers.below(letters[0]))
        )
        for _ in range(many)
    ), given, wanted)


A = ("sign", "a")
B = ("sign", "b")
C = ("sign", "c")
X = ("sign", "x")
Y = ("sign", "y")
YES = ("yes",)
NO = ("no",)


def wrong_tasks():
    """Things that are no tasks."""
    board = (("a",), ("x",))
    wrong = [((), ()), (board, [("given", "always", A)]), ((("a",), ("a",)), ())]
    wrong += [((("a",), ()), (("given", "always", X),)), (board, (("wanted", "always", YES),) * 9)]
    # Too many looks are told of a task alone.
    wrong.append((board, (("wanted", "always", chain("before", 8, A)), ("wanted", "always", None))))
    return wrong + odd()

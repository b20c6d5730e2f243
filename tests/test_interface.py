"""The interface: each name stands in its file, and takes what the document lists by place."""

import importlib
import inspect
import unittest

LISTED = {
    "names": {"is_name": 1, "need_name": 1, "are_pairs": 1, "name_by": 2},
    "boards": {
        "is_board": 1, "need_board": 1, "letters_of": 1, "is_letter": 2, "need_letter": 2, "letter_of": 2,
        "some_of": 2, "is_turn": 2, "need_turn": 2, "all_turns": 1, "is_so": 3, "is_loop": 2, "need_loop": 2,
        "turn_at": 2, "lean": 1, "are_one": 2,
    },
    "wishes": {
        "is_wish": 1, "need_wish": 1, "is_wish_of": 2, "need_wish_of": 2, "parts_within": 1, "many_parts": 1,
        "deep_of": 1, "signs_of": 1, "is_look": 1, "renamed": 2,
    },
    "tasks": {
        "is_row": 2, "need_row": 2, "is_task": 1, "need_task": 1, "looks_of": 1, "always_of": 2, "goals_of": 2,
        "names_of": 1, "renamed_task": 2,
    },
    "writing": {"wish_text": 1, "task_text": 1, "letter_text": 2, "turn_text": 2, "loop_text": 2},
    "reading": {"wish_of": 1, "task_of": 1, "turn_of": 2, "loop_of": 2},
    "meaning": {"values_along": 3, "holds_always": 3, "holds_again": 3, "rows_failed": 2, "is_kept": 2},
    "memory": {"first_position": 1, "need_position": 2, "moved": 3, "positions_along": 2, "all_positions": 1},
    "machines": {
        "is_machine": 2, "need_machine": 2, "turns_of": 2, "room_behind": 2, "loop_by": 2, "goes": 2, "rooms_of": 1,
    },
    "plans": {
        "is_plan": 2, "need_plan": 2, "turns_against": 2, "loop_against": 2, "goes_by": 2, "plan_rooms": 1,
        "loop_of_both": 2,
    },
    "alike": {"alike": 2, "merged": 1},
    "arena": {"is_arena": 1, "need_arena": 1, "arena_of": 1},
    "games": {"ours": 1, "others": 1, "held": 1, "lost": 1},
    "made": {"machine_of": 2, "plan_of": 2},
    "keeper": {"told": 1, "has_it": 1, "machine_for": 1, "plan_for": 1},
    "changes": {"together": 2, "without": 2},
    "parts": {"parts_of": 1, "shortest_way": 3},
    "papers": {"pairs_of": 2, "pairs_by": 2, "machine_papers": 2, "plan_papers": 2},
    "checker": {"shows_machine": 3, "shows_plan": 3},
    "keeping": {"keeps": 2, "breaks": 2, "breaking": 2, "saving": 2},
    "fewest": {"fewest": 2},
    "cores": {"core": 1},
    "noting": {
        "machine_text": 1, "plan_text": 1, "papers_text": 1, "plan_papers_text": 1, "read_machine": 2, "read_plan": 2,
        "read_papers": 1, "read_plan_papers": 1,
    },
}
# Of each class what it is made of, then its methods.
CLASSES = {
    "plays": {
        "Play": (1, {
            "side": 0, "letter_next": 0, "turn": 1, "turns": 0, "position_now": 0, "room_now": 0, "met": 0, "copied": 0,
        }),
    },
    "desk": {"Desk": (1, {"say": 1})},
}


class Interface(unittest.TestCase):
    def takes(self, function, many):
        """Checks that a function takes so many things by place, no more and no less."""
        parameters = inspect.signature(function).parameters.values()
        self.assertEqual(len(parameters), many, function)
        for parameter in parameters:
            self.assertEqual(parameter.kind, parameter.POSITIONAL_OR_KEYWORD, function)
            self.assertIs(parameter.default, parameter.empty, function)

    def test_each_function(self):
        for file, functions in LISTED.items():
            module = importlib.import_module(f"wishkeep.{file}")
            for name, many in functions.items():
                function = getattr(module, name)
                self.assertEqual(function.__module__, module.__name__, name)
                self.takes(function, many)

    def test_each_class(self):
        for file, classes in CLASSES.items():
            module = importlib.import_module(f"wishkeep.{file}")
            for name, (many, methods) in classes.items():
                found = getattr(module, name)
                self.assertEqual(found.__module__, module.__name__, name)
                self.takes(found, many)
                for method, takes in methods.items():
                    self.assertIn(method, vars(found), name)
                    self.takes(vars(found)[method], 1 + takes)


if __name__ == "__main__":
    unittest.main()

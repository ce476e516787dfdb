"""The interface: names, arguments, defaults, and the file and class in which each thing is defined."""

import ast
import importlib
import inspect
import os
import unittest

PACKAGE = os.path.join(os.path.dirname(os.path.dirname(os.path.abspath(__file__))), "darkthread")

VALUES = {"house": {"MOST_ROOMS": 8}, "rounds": {"MOST_ROUND": 6},
          "scene": {"MOST_POSTS": 5, "MOST_WATCHERS": 6, "MOST_RELIEF": 4, "NEVER": 0},
          "book": {"MOST_WATCHES": 4}}

FUNCTIONS = {
    "house": {"is_name": "(text)"},
    "rounds": {"need_round": "(house, rooms)", "place": "(rooms, beat, *, delay=0)", "turned": "(rooms)",
               "wheel_of": "(sizes)", "met": "(one, other)"},
    "meets": {"posts_meet": "(scene, post, other)", "watchers_meet": "(scene, watcher, other)"},
    "ways": {"way": "(scene, starts, goals, *, begin=None)", "is_walk": "(scene, beat, rooms)",
             "is_way": "(scene, starts, goals, beat, rooms)",
             "is_closed": "(scene, starts, goals, cells, *, begin=None)"},
    "linger": {"linger": "(scene, room, beat)", "is_ever": "(scene, room, beat, lead, ring)",
               "is_most": "(scene, room, beat, rooms, ranks)"},
    "bars": {"fewest": "(house, posts, reaches, starts, goals)",
             "is_bar": "(house, posts, reaches, starts, goals, names, ways)",
             "least_delays": "(house, posts, reaches, starts, goals)"},
    "several": {"together": "(scene, wishes, begin)", "is_together": "(scene, wishes, begin, rows)"},
    "seen": {"fits": "(house, size, sightings)", "can_be": "(house, size, sightings, beat)",
             "read_round": "(house, size, sightings)", "is_misfit": "(house, size, sightings, table)"},
    "askings": {"need_asking": "(asking)", "answer": "(scene, asking)", "asking_text": "(asking)",
                "read_asking": "(text)", "shown": "(told)"},
    "lines": {"deed_text": "(deed)", "deed_of": "(text)"},
    "pages": {"page": "(book)", "read_page": "(text)"},
}

CLASSES = {
    "errors": {
        "DarkError": {}, "Missing": {}, "Nothing": {"__init__": "(self)"},
        **{name: {"__init__": "(self, name)"} for name in
           ("BadName", "Taken", "Leans", "NoRoom", "NoPost", "NoWatcher", "NoWatch")},
        "BadNumber": {"__init__": "(self, asked)"}, "NotAWalk": {"__init__": "(self, at)"},
        "Broken": {"__init__": "(self, at)"}, "TooGreat": {"__init__": "(self, many)"},
        "BadText": {"__init__": "(self, row)"},
        **{name: {"__init__": "(self)"} for name in
           ("Full", "Loop", "NoDoor", "NoSight", "BadRound", "Bare", "BadDeed", "BadAsking")},
    },
    "house": {
        "House": {"__init__": "(self, rooms=(), doors=(), sights=())", "rooms": "(self)", "doors": "(self)",
                  "sights": "(self)", "has_room": "(self, name)", "near": "(self, room)", "sees": "(self, room)",
                  "has_door": "(self, a, b)", "has_sight": "(self, a, b)", "at_hand": "(self, a, b)",
                  "__len__": "(self)", "__eq__": "(self, other)", "__str__": "(self)", "__repr__": "(self)"},
    },
    "scene": {
        "Scene": {"__init__": "(self, house, posts=(), watchers=(), *, meet=False, relief=0)", "house": "(self)",
                  "posts": "(self)", "watchers": "(self)", "rooms_of": "(self, post)", "delay_of": "(self, post)",
                  "where": "(self, post, beat)", "who": "(self, post, beat)", "post_of": "(self, watcher, beat)",
                  "reach_of": "(self, watcher)", "lit": "(self, beat)", "is_dark": "(self, room, beat)",
                  "barred": "(self, a, b, beat)", "steps": "(self, room, beat)", "span": "(self)", "wheel": "(self)",
                  "turning": "(self)", "__len__": "(self)", "__eq__": "(self, other)", "__repr__": "(self)"},
    },
    "book": {
        "Book": {"__init__": "(self)", "do": "(self, deed)", "all_of": "(self, deeds)", "busy": "(self)",
                 "post": "(self, name, rooms, *, delay=0)", "watcher": "(self, name, *, reach=0)",
                 "rule": "(self, *, meet=False, relief=0)", "undo": "(self)", "redo": "(self)", "deeds": "(self)",
                 "notes": "(self)", "watches": "(self)", "house": "(self)", "posts": "(self)", "watchers": "(self)",
                 "rules": "(self)", "scene": "(self)", "ask": "(self, asking)", "seen_by": "(self, name)",
                 "twin": "(self)", "__len__": "(self)", "__eq__": "(self, other)", "__repr__": "(self)",
                 "__str__": "(self)"},
    },
    "desk": {"Desk": {"__init__": "(self, book=None)", "book": "(self)", "say": "(self, line)"}},
}


def module(name):
    return importlib.import_module(f"darkthread.{name}")


def tree(name):
    with open(os.path.join(PACKAGE, f"{name}.py"), encoding="utf-8") as source:
        return ast.parse(source.read())


def defined(body, kind):
    return {node.name: node for node in body if isinstance(node, kind)}


class Interface(unittest.TestCase):
    def test_values(self):
        for name, values in VALUES.items():
            for value, expected in values.items():
                self.assertEqual(getattr(module(name), value), expected)

    def test_functions_and_their_arguments(self):
        for name, functions in FUNCTIONS.items():
            here = defined(tree(name).body, ast.FunctionDef)
            for function, arguments in functions.items():
                with self.subTest(function=function):
                    self.assertIn(function, here)
                    self.assertEqual(str(inspect.signature(getattr(module(name), function))), arguments)

    def test_classes_and_their_methods(self):
        for name, classes in CLASSES.items():
            here = defined(tree(name).body, ast.ClassDef)
            for owner, methods in classes.items():
                self.assertIn(owner, here)
                own = defined(here[owner].body, ast.FunctionDef)
                for method, arguments in methods.items():
                    with self.subTest(owner=owner, method=method):
                        self.assertIn(method, own)
                        found = inspect.signature(getattr(getattr(module(name), owner), method))
                        self.assertEqual(str(found), arguments)


if __name__ == "__main__":
    unittest.main()

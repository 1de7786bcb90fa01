"""Point [1] and the first paragraphs of the interface: the names, where they are defined, and what they take."""

import copy
import importlib
import inspect
import unittest

# What has landed of the interface: by module the functions with their arguments.
FUNCTIONS = {
    "commonage.programs": {
        "is_program": ["value"],
        "instruction_at": ["program", "place"],
        "touch_of": ["instruction", "registers", "words"],
        "after": ["instruction", "registers", "place"],
    },
    "commonage.clocks": {
        "zero_clock": ["machines"],
        "merged": ["one", "other"],
        "with_count": ["clock", "machine", "count"],
        "covers": ["clock", "machine", "number"],
        "is_within": ["one", "other"],
        "make_record": ["machine", "number", "clock", "loads", "stores"],
        "is_before": ["one", "other"],
        "are_unordered": ["one", "other"],
        "not_covered": ["records", "clock"],
        "covered": ["records", "clock"],
    },
    "commonage.pages": {
        "page_of": ["word"],
        "place_of": ["word"],
        "new_page": [],
        "store": ["page", "place", "value", "machine"],
        "merge": ["page", "rows"],
        "rows_of": ["page"],
        "difference": ["stored"],
    },
    "commonage.homes": {
        "first_homes": ["machines", "pages"],
        "chosen_homes": ["homes", "records"],
        "new_held": ["machines"],
        "needs": ["held", "machine", "number"],
        "arrived": ["held", "machine", "number"],
        "had": ["held", "clock"],
        "is_fresh": ["held", "needed", "owner"],
    },
    "commonage.races": {"report": ["records"], "is_right": ["paper", "records"]},
    "commonage.locks": {
        "manager_of": ["lock", "machines"],
        "new_lock": ["machines"],
        "ask": ["lock", "machine", "clock"],
        "let_go": ["lock", "clock"],
    },
    "commonage.barriers": {
        "new_master": [],
        "come": ["master", "machine", "clock", "ended"],
        "is_complete": ["master", "machines"],
        "clocks_of": ["master"],
        "go_on": ["master", "machines"],
        "is_over": ["master"],
    },
    "commonage.channels": {
        "new_rows": ["machines"],
        "send": ["rows", "target", "letter"],
        "take": ["rows", "source", "parcel"],
        "answer": ["rows", "source"],
        "confirm": ["rows", "target", "number"],
        "parcels": ["rows", "target"],
    },
    "commonage.logs": {"copied": ["value"]},
    "commonage.traces": {
        "clocks_of": ["trace"],
        "comes_before": ["clocks", "one", "other"],
        "intervals_of": ["events"],
        "races_of": ["trace"],
        "one_order": ["trace"],
    },
    "commonage.judge": {"first_fault": ["trace"], "differing": ["trace", "order"]},
}
CLASSES = {
    "commonage.errors": ["CommonageError", "NotValid"],
    "commonage.logs": ["Disk"],
    "commonage.nodes": ["Node"],
    "commonage.world": ["World"],
}
# By class what an object is made of, and the methods with their arguments.
METHODS = {
    ("commonage.logs", "Disk"): {
        "__init__": [], "write": ["entry"], "save": ["value"], "saved": [], "entries": [],
    },
    ("commonage.nodes", "Node"): {
        "__init__": ["machine", "machines", "program", "pages", "disk"],
        "step": [], "take": ["source", "parcel"], "answer": ["source"], "confirm": ["target", "number"],
        "again": ["target"], "save": [], "state": [], "steps": [], "clock": [], "events": [], "races": [],
        "copy_of": ["page"], "homes": [], "waits_for": [], "known": [], "holder": ["lock"],
    },
    ("commonage.world", "World"): {
        "__init__": ["programs", "pages"],
        "play": ["acts"], "settle": ["rounds"], "trace": [], "races": [], "states": [], "waiting": [], "net": [],
        "word": ["machine", "address"],
    },
}
VALUES = {
    "commonage.programs": {"REGISTERS": 8, "LOCKS": 4},
    "commonage.pages": {"PAGE_WORDS": 4, "MAX_PAGES": 12, "FIRST_CELL": (0, (0, 0))},
}

# The functions of which the interface says that they change an argument, and which one it is.
CHANGED = {
    ("commonage.pages", "store"): "page",
    ("commonage.pages", "merge"): "page",
    ("commonage.homes", "needs"): "held",
    ("commonage.homes", "arrived"): "held",
    ("commonage.homes", "had"): "held",
    ("commonage.locks", "ask"): "lock",
    ("commonage.locks", "let_go"): "lock",
    ("commonage.barriers", "come"): "master",
    ("commonage.barriers", "go_on"): "master",
    ("commonage.channels", "send"): "rows",
    ("commonage.channels", "take"): "rows",
    ("commonage.channels", "confirm"): "rows",
}

ONE = (0, 2, (2, 1), (1,), (2,))
OTHER = (1, 3, (2, 3), (), (2,))
RACING = (1, 3, (1, 3), (2,), ())
PAPER = (2, (0, 2, (2, 1), "store"), (1, 3, (1, 3), "load"))
REGISTERS = [4, -5, 6, 7, 0, 0, 0, 1]
PAGE = [(0, (0, 0)), (5, (1, 1)), (0, (0, 0)), (6, (2, 0))]
HELD = {"need": (2, 1), "has": (0, 1)}
MASTER = {"come": [(1, (0, 4)), (0, (3, 0))], "ended": [(1, (0, 4))], "number": 2, "over": False}
ROWS = {"sent": [0, 2], "taken": [0, 3], "kept": [[], [(2, ("a",))]]}
PLAIN = {"a": [1, (2, None, [])], (0, 1): ("b", True)}
TRACE = [
    [("store", 1, 5, (1, 0)), ("release", 0, 1), ("store", 1, 6, (2, 0))],
    [("acquire", 0, 2), ("load", 1, 5, (1, 0)), ("store", 2, 4, (1, 1))],
]
TRACE_CLOCKS = [[(1, 0), (2, 0), (3, 0)], [(2, 1), (2, 2), (2, 3)]]
LOCK = {"holder": 1, "queue": [(0, (3, 0))], "clock": (0, 1), "grants": 2}

# A call of each function, by the names of its arguments, and what it returns.
CALLS = [
    ("commonage.programs", "is_program", {"value": [("end",), ("jump", 0)]}, True),
    ("commonage.programs", "is_program", {"value": [("end",), ["end"]]}, False),
    ("commonage.programs", "instruction_at", {"program": [("barrier",)], "place": 0}, ("barrier",)),
    ("commonage.programs", "instruction_at", {"program": [("barrier",)], "place": 1}, ("end",)),
    ("commonage.programs", "touch_of", {"instruction": ("load", 0, 1), "registers": REGISTERS, "words": 8}, ("load", 3)),
    ("commonage.programs", "touch_of", {"instruction": ("end",), "registers": REGISTERS, "words": 8}, None),
    (
        "commonage.programs", "after", {"instruction": ("mul", 0, 1, 2), "registers": REGISTERS, "place": 0},
        ([-30, -5, 6, 7, 0, 0, 0, 1], 1),
    ),
    ("commonage.programs", "after", {"instruction": ("jump", 7), "registers": REGISTERS, "place": 0}, (REGISTERS, 7)),
    ("commonage.clocks", "zero_clock", {"machines": 3}, (0, 0, 0)),
    ("commonage.clocks", "merged", {"one": (1, 4), "other": (2, 3)}, (2, 4)),
    ("commonage.clocks", "with_count", {"clock": (1, 4), "machine": 1, "count": 6}, (1, 6)),
    ("commonage.clocks", "covers", {"clock": (1, 4), "machine": 1, "number": 4}, True),
    ("commonage.clocks", "is_within", {"one": (1, 4), "other": (1, 3)}, False),
    (
        "commonage.clocks", "make_record",
        {"machine": 0, "number": 2, "clock": (2, 1), "loads": [1, 1], "stores": [2]}, ONE,
    ),
    ("commonage.clocks", "is_before", {"one": ONE, "other": OTHER}, True),
    ("commonage.clocks", "are_unordered", {"one": ONE, "other": OTHER}, False),
    ("commonage.clocks", "not_covered", {"records": [OTHER, ONE], "clock": (2, 2)}, [OTHER]),
    ("commonage.clocks", "covered", {"records": [OTHER, ONE], "clock": (2, 3)}, [ONE, OTHER]),
    ("commonage.pages", "page_of", {"word": 11}, 2),
    ("commonage.pages", "place_of", {"word": 11}, 3),
    ("commonage.pages", "new_page", {}, [(0, (0, 0))] * 4),
    ("commonage.pages", "store", {"page": PAGE, "place": 1, "value": 9, "machine": 0}, (2, 0)),
    ("commonage.pages", "merge", {"page": PAGE, "rows": [(0, 4, (1, 1)), (1, 4, (1, 2))]}, None),
    (
        "commonage.pages", "rows_of", {"page": PAGE},
        ((0, 0, (0, 0)), (1, 5, (1, 1)), (2, 0, (0, 0)), (3, 6, (2, 0))),
    ),
    ("commonage.pages", "difference", {"stored": {3: (6, (2, 0)), 1: (5, (1, 1))}}, ((1, 5, (1, 1)), (3, 6, (2, 0)))),
    ("commonage.homes", "first_homes", {"machines": 2, "pages": 3}, (0, 1, 0)),
    ("commonage.homes", "chosen_homes", {"homes": (1, 1), "records": [ONE]}, (0, 1)),
    ("commonage.homes", "new_held", {"machines": 2}, {"need": (0, 0), "has": (0, 0)}),
    ("commonage.homes", "needs", {"held": HELD, "machine": 0, "number": 4}, None),
    ("commonage.homes", "arrived", {"held": HELD, "machine": 0, "number": 2}, None),
    ("commonage.homes", "had", {"held": HELD, "clock": (1, 0)}, None),
    ("commonage.homes", "is_fresh", {"held": HELD, "needed": (2, 1), "owner": 0}, True),
    ("commonage.homes", "is_fresh", {"held": HELD, "needed": (2, 1), "owner": 1}, False),
    ("commonage.races", "report", {"records": [RACING, ONE]}, [PAPER]),
    ("commonage.races", "is_right", {"paper": PAPER, "records": [RACING, ONE]}, True),
    ("commonage.races", "is_right", {"paper": PAPER, "records": [OTHER, ONE]}, False),
    ("commonage.locks", "manager_of", {"lock": 3, "machines": 2}, 1),
    ("commonage.locks", "new_lock", {"machines": 2}, {"holder": None, "queue": [], "clock": (0, 0), "grants": 0}),
    ("commonage.locks", "ask", {"lock": LOCK, "machine": 0, "clock": (4, 0)}, None),
    ("commonage.locks", "let_go", {"lock": LOCK, "clock": (0, 5)}, (0, (3, 0), 3, (0, 5))),
    ("commonage.barriers", "new_master", {}, {"come": [], "ended": [], "number": 0, "over": False}),
    ("commonage.barriers", "come", {"master": MASTER, "machine": 2, "clock": (0, 0, 1), "ended": True}, None),
    ("commonage.barriers", "is_complete", {"master": MASTER, "machines": 2}, True),
    ("commonage.barriers", "is_complete", {"master": MASTER, "machines": 3}, False),
    ("commonage.barriers", "clocks_of", {"master": MASTER}, {1: (0, 4), 0: (3, 0)}),
    ("commonage.barriers", "go_on", {"master": MASTER, "machines": 2}, 3),
    ("commonage.barriers", "is_over", {"master": MASTER}, False),
    ("commonage.channels", "new_rows", {"machines": 2}, {"sent": [0, 0], "taken": [0, 0], "kept": [[], []]}),
    ("commonage.channels", "send", {"rows": ROWS, "target": 1, "letter": ("b", 5)}, (3, ("b", 5))),
    ("commonage.channels", "take", {"rows": ROWS, "source": 1, "parcel": (4, ("c",))}, ("c",)),
    ("commonage.channels", "answer", {"rows": ROWS, "source": 1}, 3),
    ("commonage.channels", "confirm", {"rows": ROWS, "target": 1, "number": 2}, None),
    ("commonage.channels", "parcels", {"rows": ROWS, "target": 1}, [(2, ("a",))]),
    ("commonage.logs", "copied", {"value": PLAIN}, {"a": [1, (2, None, [])], (0, 1): ("b", True)}),
    ("commonage.traces", "clocks_of", {"trace": TRACE}, TRACE_CLOCKS),
    ("commonage.traces", "clocks_of", {"trace": [[("acquire", 0, 2), ("release", 0, 1)]]}, None),
    ("commonage.traces", "comes_before", {"clocks": TRACE_CLOCKS, "one": (0, 1), "other": (1, 0)}, True),
    ("commonage.traces", "comes_before", {"clocks": TRACE_CLOCKS, "one": (0, 2), "other": (1, 2)}, False),
    ("commonage.traces", "intervals_of", {"events": TRACE[0]}, [1, 1, 2]),
    ("commonage.traces", "races_of", {"trace": TRACE}, [(1, (0, 2), (1, 2))]),
    ("commonage.traces", "one_order", {"trace": TRACE}, [(0, 0), (0, 1), (0, 2), (1, 0), (1, 1), (1, 2)]),
    ("commonage.judge", "first_fault", {"trace": [[("store", 1, 5, (0, 0))]]}, ("key", 0, 0)),
    ("commonage.judge", "first_fault", {"trace": []}, ("", -1, -1)),
    ("commonage.judge", "differing", {"trace": TRACE, "order": [(0, 0), (0, 2), (1, 1)]}, [(1, 1)]),
]


def found(module, name):
    return getattr(importlib.import_module(module), name)


def kinds_of(value):
    """The kinds of a value and of all that it contains, so that True and 1 are not the same."""
    if isinstance(value, (list, tuple)):
        return (type(value), [kinds_of(part) for part in value])
    if isinstance(value, dict):
        return (type(value), [kinds_of(row) for row in value.items()])
    return type(value)


class Interface(unittest.TestCase):
    def test_functions_have_their_arguments_and_their_file(self):
        for module, functions in FUNCTIONS.items():
            for name, arguments in functions.items():
                with self.subTest(module=module, name=name):
                    function = found(module, name)
                    self.assertTrue(inspect.isfunction(function))
                    self.assertEqual(function.__module__, module)
                    parameters = inspect.signature(function).parameters.values()
                    self.assertEqual([one.name for one in parameters], arguments)
                    for one in parameters:
                        self.assertIs(one.default, inspect.Parameter.empty)
                        self.assertIs(one.kind, inspect.Parameter.POSITIONAL_OR_KEYWORD)

    def test_classes_have_their_file(self):
        for module, names in CLASSES.items():
            for name in names:
                with self.subTest(module=module, name=name):
                    self.assertTrue(inspect.isclass(found(module, name)))
                    self.assertEqual(found(module, name).__module__, module)

    def test_methods_have_their_arguments_and_their_class(self):
        for (module, name), methods in METHODS.items():
            for method, arguments in methods.items():
                with self.subTest(module=module, name=name, method=method):
                    function = found(module, name).__dict__[method]
                    self.assertTrue(inspect.isfunction(function))
                    parameters = list(inspect.signature(function).parameters.values())[1:]
                    self.assertEqual([one.name for one in parameters], arguments)
                    self.assertTrue(all(one.default is inspect.Parameter.empty for one in parameters))

    def test_values(self):
        for module, names in VALUES.items():
            for name, value in names.items():
                self.assertEqual((found(module, name), type(found(module, name))), (value, type(value)))

    def test_each_function_is_called_below(self):
        names = [(module, name) for module, functions in FUNCTIONS.items() for name in functions]
        self.assertEqual({(module, name) for module, name, _, _ in CALLS}, set(names))

    def test_values_and_their_kinds(self):
        for module, name, arguments, expected in CALLS:
            with self.subTest(module=module, name=name):
                result = found(module, name)(**copy.deepcopy(arguments))
                self.assertEqual(result, expected)
                self.assertEqual(kinds_of(result), kinds_of(expected))

    def test_only_the_arguments_change_of_which_the_interface_says_so(self):
        for module, name, arguments, _ in CALLS:
            with self.subTest(module=module, name=name):
                passed = copy.deepcopy(arguments)
                found(module, name)(**passed)
                may_change = CHANGED.get((module, name))
                if may_change is not None:
                    self.assertNotEqual(passed[may_change], arguments[may_change])
                for argument, value in arguments.items():
                    if argument != may_change:
                        self.assertEqual(passed[argument], value)
                        self.assertEqual(kinds_of(passed[argument]), kinds_of(value))

    def test_calls_do_not_change_what_was_returned(self):
        results = [found(module, name)(**copy.deepcopy(arguments)) for module, name, arguments, _ in CALLS]
        kept = copy.deepcopy(results)
        for module, name, arguments, _ in CALLS:
            found(module, name)(**copy.deepcopy(arguments))
        self.assertEqual(results, kept)

    def test_what_is_returned_is_not_kept(self):
        for module, name, arguments, expected in CALLS:
            with self.subTest(module=module, name=name):
                result = found(module, name)(**copy.deepcopy(arguments))
                for value in [result, *(result if isinstance(result, tuple) else ())]:
                    if isinstance(value, (list, dict)):
                        value.clear()
                self.assertEqual(found(module, name)(**copy.deepcopy(arguments)), expected)


if __name__ == "__main__":
    unittest.main()

"""The refusals: their classes, fields and copies ([2], [3], the interface's errors)."""

import unittest

from askback import errors

CLASSES = {
    "BadHouse": (ValueError, "part"),
    "BadMoment": (ValueError, "moment"),
    "BadSaying": (ValueError, "place"),
    "BadTeller": (ValueError, "teller"),
    "NoAsk": (ValueError, "row"),
    "Unread": (ValueError, "row"),
    "NoEntry": (KeyError, "moment"),
    "NoName": (KeyError, "name"),
    "SameMoment": (LookupError, "moment"),
    "BadMark": (IndexError, "number"),
    "Beyond": (IndexError, "place"),
    "NoBar": (RuntimeError, None),
    "NoHouse": (RuntimeError, None),
    "OtherK": (RuntimeError, "k"),
}

# Fields of these may be anything.
OF_ANYTHING = ["BadMoment", "BadTeller", "NoAsk", "Unread", "NoEntry"]


class ErrorsTest(unittest.TestCase):
    def test_each_class_is_straight_under_its_python_class(self):
        for name, (above, _) in CLASSES.items():
            made = getattr(errors, name)
            self.assertEqual(made.__bases__, (above,), name)
            self.assertEqual(made.__module__, "askback.errors", name)

    def test_no_other_class_is_there(self):
        there = [name for name, thing in vars(errors).items() if isinstance(thing, type)]
        self.assertEqual(sorted(there), sorted(CLASSES))

    def test_each_field_is_set(self):
        for name, (_, field) in CLASSES.items():
            if field is not None:
                raised = getattr(errors, name)(7)
                self.assertEqual(getattr(raised, field), 7, name)

    def test_each_can_be_shown_whatever_it_is_about(self):
        for name, (_, field) in CLASSES.items():
            if field is not None:
                self.assertTrue(str(getattr(errors, name)(10 ** 5000)), name)

    def test_fields_of_anything_are_equal_to_what_was_handed_in(self):
        things = [None, True, 0, -5, "", "a\nb", [], (), {}, [1, (2, [3])], {"a": [1], (1, 2): ({},)}]
        for name in OF_ANYTHING:
            for thing in things:
                held = getattr(getattr(errors, name)(thing), CLASSES[name][1])
                self.assertEqual(held, thing)
                self.assertIs(type(held), type(thing))

    def test_fields_of_anything_are_copies(self):
        for name in OF_ANYTHING:
            thing = {"rows": [1, ([2],)], "more": {}}
            raised = getattr(errors, name)(thing)
            thing["rows"][1][0].append(3)
            thing["more"][1] = 1
            thing["new"] = 1
            held = getattr(raised, CLASSES[name][1])
            self.assertEqual(held, {"rows": [1, ([2],)], "more": {}}, name)

    def test_those_without_a_field(self):
        for name in ("NoBar", "NoHouse"):
            with self.assertRaises(RuntimeError):
                raise getattr(errors, name)("none")


if __name__ == "__main__":
    unittest.main()

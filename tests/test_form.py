"""The form: the interface as DOC.md lists it, and the rules of LANGUAGE.md that are easily looked at."""

import ast
import builtins
import inspect
import pathlib
import unittest

from askback import (
    apart,
    asking,
    bars,
    cores,
    counted,
    desk,
    fitting,
    follows,
    house,
    lore,
    marks,
    meets,
    mending,
    often,
    papers,
    sightings,
    signs,
    texts,
    which,
)

PACKAGE = pathlib.Path(__file__).resolve().parent.parent / "askback"

# What may be imported besides, by its bare name.
LIBRARY = {"math": ["gcd", "comb"], "heapq": ["heappush", "heappop"]}

ALLOWED_BUILTINS = """len range enumerate zip min max sum abs sorted reversed int str bool list tuple dict set
    isinstance ord repr any all divmod ValueError KeyError IndexError LookupError RuntimeError""".split()

FUNCTIONS = {
    signs: {
        "signs_of": ["number", "base"],
        "exponent_of": ["number", "base"],
        "first_sign": ["number", "base"],
        "noughts_of": ["number", "base"],
        "heap_of": ["number", "base"],
    },
    often: {
        "how_many_said": ["house", "times", "upto"],
        "nth_said": ["house", "times", "place"],
        "sum_upto": ["house", "place"],
        "least_place": ["house", "total"],
    },
    asking: {
        "asked": ["house", "place"],
        "leads": ["house", "place"],
        "chain": ["house", "place"],
        "asked_often": ["house", "place", "below"],
        "led_from": ["house", "place", "steps"],
        "last_with": ["house", "steps"],
        "led_again": ["house", "place"],
        "hanging": ["house", "place", "below"],
        "nearest": ["house", "one", "other"],
    },
    marks: {
        "mark_at": ["house", "marks", "place"],
        "whence": ["house", "place"],
        "mark_paper": ["house", "marks", "place"],
        "shows_mark": ["house", "marks", "place", "paper"],
    },
    apart: {
        "parts": ["one", "other"],
        "less_at": ["one", "other"],
        "lesser": ["one", "other"],
        "greater": ["one", "other"],
    },
    sightings: {
        "keeps": ["house", "saying"],
        "reaches": ["k", "sayings"],
        "least_house": ["k", "sayings", "reach"],
        "greatest_house": ["k", "sayings", "reach"],
    },
    bars: {
        "bar_of": ["k", "sayings", "*reach"],
        "shows_bar": ["k", "sayings", "thing", "*reach"],
        "why_least": ["k", "sayings"],
        "why_greatest": ["k", "sayings"],
    },
    follows: {
        "follows": ["k", "sayings", "saying"],
        "shows_follows": ["k", "sayings", "saying", "paper"],
        "may_be": ["k", "sayings", "place", "*reach"],
    },
    papers: {
        "paper_of": ["house", "place"],
        "shows_paper": ["house", "place", "paper"],
    },
    fitting: {
        "marks_by": ["house", "told"],
        "shows_marks": ["house", "told", "thing"],
    },
    meets: {
        "same_many": ["one", "other", "below", "*by"],
        "more_many": ["one", "other", "below", "*by"],
        "same_nth": ["one", "other", "place", "*by"],
        "same_from": ["one", "other", "place", "*by"],
        "same_last": ["one", "other", "*by"],
    },
    counted: {
        "how_many": ["k", "sayings", "reach"],
        "nth_house": ["k", "sayings", "reach", "place"],
    },
    which: {
        "which": ["sayings", "most"],
        "blame": ["k", "sayings"],
    },
    cores: {
        "core": ["k", "sayings"],
        "pins": ["house"],
    },
    mending: {
        "mend": ["k", "sayings", "reach", "*prices"],
        "shows_mend": ["k", "sayings", "reach", "thing", "*prices"],
        "least_mend": ["k", "sayings", "*prices"],
    },
    texts: {
        "show_house": ["house"],
        "show_saying": ["saying"],
        "show_lore": ["lore"],
        "read_house": ["text"],
        "read_saying": ["text"],
        "read_lore": ["text"],
    },
}

HOUSE_METHODS = {
    "__init__": ["self", "k", "beginning"],
    "base": ["self"],
    "beginning": ["self"],
    "reach": ["self"],
    "folk": ["self"],
    "said": ["self", "place"],
    "times": ["self", "number"],
    "first_place": ["self", "number"],
    "last_place": ["self", "number"],
}

DESK_METHODS = {
    "__init__": ["self"],
    "say": ["self", "row"],
}

LORE_METHODS = {
    "__init__": ["self", "k"],
    "__len__": ["self"],
    "sees": ["self", "moment", "teller", "saying"],
    "leaves": ["self", "moment", "teller"],
    "trusts": ["self", "moment", "teller"],
    "drop": ["self", "moment"],
    "entries": ["self", "*upto"],
    "base": ["self"],
    "sayings": ["self", "*upto"],
    "reaches": ["self", "*upto"],
    "house": ["self", "reach", "*upto"],
    "may_be": ["self", "place", "*upto"],
    "barred_by": ["self", "*upto"],
    "turns": ["self"],
    "freed_by": ["self", "*upto"],
}


def parameters_of(made):
    """Its parameters; those handed in by their names alone, None or 0 where left out, with a star ahead."""
    told = []
    for name, parameter in inspect.signature(made).parameters.items():
        left_out = 0 if name == "by" else None
        by_name = parameter.kind is inspect.Parameter.KEYWORD_ONLY and parameter.default == left_out
        plain = parameter.kind is inspect.Parameter.POSITIONAL_OR_KEYWORD and parameter.default is parameter.empty
        told.append("*" + name if by_name else name if plain else None)
    return told


def trees():
    return [(path.name, ast.parse(path.read_text())) for path in sorted(PACKAGE.glob("*.py"))]


class InterfaceTest(unittest.TestCase):
    def test_functions_are_defined_where_they_are_listed(self):
        for module, functions in FUNCTIONS.items():
            for name, parameters in functions.items():
                made = getattr(module, name)
                self.assertEqual(made.__module__, module.__name__)
                self.assertEqual(parameters_of(made), parameters)

    def test_classes_and_their_methods(self):
        for module, made, methods in ((house, house.House, HOUSE_METHODS), (lore, lore.Lore, LORE_METHODS),
                                      (desk, desk.Desk, DESK_METHODS)):
            self.assertEqual(made.__module__, module.__name__)
            for name, parameters in methods.items():
                self.assertEqual(parameters_of(vars(made)[name]), parameters)


class FormTest(unittest.TestCase):
    def test_the_folder_holds_nothing_else(self):
        others = [path.name for path in PACKAGE.iterdir() if path.suffix != ".py" and path.name != "__pycache__"]
        self.assertEqual(others, [])
        self.assertTrue((PACKAGE / "__init__.py").is_file())

    def test_characters_and_lengths(self):
        for path in PACKAGE.glob("*.py"):
            text = path.read_text()
            self.assertTrue(all(sign == "\n" or " " <= sign <= "~" for sign in text), path.name)
            self.assertLessEqual(len(text.splitlines()), 399, path.name)
            self.assertLessEqual(max([len(row) for row in text.splitlines()]), 120, path.name)

    def test_functions_are_short(self):
        for name, tree in trees():
            for node in ast.walk(tree):
                if isinstance(node, ast.FunctionDef):
                    self.assertLessEqual(node.end_lineno - node.lineno + 1, 40, (name, node.name))
                    self.assertEqual(node.decorator_list, [], (name, node.name))

    def test_imports_are_from_the_package_by_full_names(self):
        for name, tree in trees():
            for node in ast.walk(tree):
                self.assertNotIsInstance(node, ast.Import, name)
                if isinstance(node, ast.ImportFrom):
                    self.assertEqual(node.level, 0, name)
                    allowed = LIBRARY.get(node.module, [])
                    for alias in node.names:
                        self.assertTrue(node.module.startswith("askback.") or alias.name in allowed, name)
                        self.assertIsNone(alias.asname, name)

    def test_what_is_imported_is_defined_there_and_no_two_files_import_from_each_other(self):
        imports = {}
        for name, tree in trees():
            found = [node for node in tree.body if isinstance(node, ast.ImportFrom) and node.module not in LIBRARY]
            imports[name] = [node.module.split(".")[1] + ".py" for node in found]
            for node in found:
                there = ast.parse((PACKAGE / (node.module.split(".")[1] + ".py")).read_text())
                bound = [one.name for one in there.body if isinstance(one, (ast.FunctionDef, ast.ClassDef))]
                bound += [one.targets[0].id for one in there.body if isinstance(one, ast.Assign)]
                self.assertTrue({alias.name for alias in node.names} <= set(bound), (name, node.module))
        while imports:
            free = [name for name, others in imports.items() if not set(others) & set(imports)]
            self.assertTrue(free, imports)
            imports = {name: others for name, others in imports.items() if name not in free}

    def test_no_local_name_is_that_of_an_import_or_a_class(self):
        for name, tree in trees():
            taken = {alias.name for node in ast.walk(tree) if isinstance(node, ast.ImportFrom) for alias in node.names}
            taken |= {node.name for node in tree.body if isinstance(node, (ast.ClassDef, ast.FunctionDef))}
            for node in ast.walk(tree):
                if isinstance(node, ast.Name) and isinstance(node.ctx, ast.Store):
                    self.assertNotIn(node.id, taken, name)
                if isinstance(node, ast.arg):
                    self.assertNotIn(node.arg, taken, name)

    def test_no_floats_and_no_powers_that_a_loop_has_to_build(self):
        for name, tree in trees():
            for node in ast.walk(tree):
                self.assertNotIsInstance(node, (ast.Div, ast.Pow, ast.Try, ast.Global), name)
                if isinstance(node, ast.Constant):
                    self.assertNotIsInstance(node.value, (float, complex), name)

    def test_only_allowed_builtins_and_none_bound_anew(self):
        for name, tree in trees():
            for node in ast.walk(tree):
                if isinstance(node, ast.Name) and hasattr(builtins, node.id):
                    self.assertIsInstance(node.ctx, ast.Load, (name, node.id))
                    self.assertIn(node.id, ALLOWED_BUILTINS, name)
                if isinstance(node, ast.arg):
                    self.assertFalse(hasattr(builtins, node.arg), (name, node.arg))


if __name__ == "__main__":
    unittest.main()

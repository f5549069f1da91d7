"""What ../shared/LANGUAGE.md asks of the rows of the package, as far as the code alone shows it."""

import ast
import unittest
from pathlib import Path

PACKAGE = Path(__file__).resolve().parent.parent / "hoursums"
FILES = sorted(PACKAGE.rglob("*.py"))
WALKED = ("range", "zip", "enumerate", "reversed", "map", "items", "keys", "values")
WALKERS = ("list", "tuple", "dict", "sorted", "sum", "any", "all", "enumerate", "zip", "min", "max", "join", "len")


def word_of(call):
    """The bare name, or the name behind the last dot, of what is called."""
    return getattr(call.func, "id", getattr(call.func, "attr", None))


def walked_on_the_spot(tree):
    """The calls that stand behind the `in` of a loop, or first in a call that goes over them."""
    told = [node.iter for node in ast.walk(tree) if isinstance(node, (ast.For, ast.comprehension))]
    calls = [node for node in ast.walk(tree) if isinstance(node, ast.Call)]
    return told + [call.args[0] for call in calls if word_of(call) in WALKERS and call.args]


def kept_rows(text):
    """The rows in which one of the walked calls is kept or passed on."""
    tree = ast.parse(text)
    walked = {id(node) for node in walked_on_the_spot(tree)}
    calls = [node for node in ast.walk(tree) if isinstance(node, ast.Call) and word_of(node) in WALKED]
    return sorted([call.lineno for call in calls if id(call) not in walked])


class LanguageTest(unittest.TestCase):
    def test_what_is_iterated_is_walked_on_the_spot(self):
        for file in FILES:
            with self.subTest(file.name):
                self.assertEqual(kept_rows(file.read_text()), [])

    def test_rows_that_keep_or_pass_on_are_found(self):
        self.assertEqual(kept_rows("a = b(1, range(3))\nc = list(range(3))\nd = [e for e in zip(c, c)]\n"), [1])
        self.assertEqual(kept_rows("for a in b.items():\n    c(d=e.keys())\nf = enumerate(b)\n"), [2, 3])

    def test_sizes_and_signs(self):
        for file in FILES:
            text = file.read_text()
            with self.subTest(file.name):
                self.assertLessEqual(len(text.splitlines()), 399)
                self.assertLessEqual(max(map(len, text.splitlines())), 120)
                self.assertEqual([sign for sign in text if sign != "\n" and not " " <= sign <= "~"], [])
                functions = [node for node in ast.walk(ast.parse(text)) if isinstance(node, ast.FunctionDef)]
                longest = [node.name for node in functions if node.end_lineno - node.lineno >= 40]
                self.assertEqual(longest, [])


if __name__ == "__main__":
    unittest.main()

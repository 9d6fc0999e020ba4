"""What the package's files hold and draw from."""

import ast
import os
import re
import subprocess
import sys
import tempfile
import unittest

ROOT = os.path.dirname(os.path.dirname(os.path.abspath(__file__)))
FOLDER = os.path.join(ROOT, "midpile")

# Through these a clock, chance, a file or the world outside could be reached without an import.
OUTSIDE = ["open", "input", "print", "eval", "exec", "compile", "getattr", "globals", "vars", "hash", "id",
           "breakpoint", "__import__", "__builtins__", "__loader__", "__spec__", "__file__"]

UNUSED_WORDS = ["type", "typing", "typing_extensions", "enum", "Enum", "IntEnum", "StrEnum", "Flag", "IntFlag",
                "Generic", "Protocol", "ABC", "ABCMeta", "namedtuple", "NamedTuple", "TypedDict", "TYPE_CHECKING",
                "abstractmethod"]

ASKED = """
from midpile.errors import NoShare
from midpile.piles import Pile, Turned
from midpile.places import place
from midpile.rows import Midrow
from midpile.sliding import slide
for many in [0, 1, 2, 9, 10, 10 ** 60 - 1]:
    for part in range(-2, 6):
        for whole in range(-2, 6):
            try:
                print(place(many, part, whole))
            except NoShare:
                print("NoShare")
numbers = [each * each * 7919 % 1009 - 500 for each in range(200)]
for pile in [Pile(), Turned()]:
    for coming in range(200):
        pile.put((numbers[coming], coming))
        print(pile.told(), pile.top(), pile.weight())
    for coming in range(0, 200, 3):
        print(pile.take(coming), pile.told())
row = Midrow()
for number in numbers:
    print(row.put(number), row.share(), row.piles(), row.burden())
for coming in range(1, 200, 3):
    row.turn(coming, 200)
    print(row.take(coming), row.oldest(), row.share(), row.piles(), row.burden())
print(slide(numbers, 9), slide(numbers, 10, 2, 3))
"""


def package_files():
    return sorted(name for name in os.listdir(FOLDER) if name != "__pycache__")


def text_of(name):
    with open(os.path.join(FOLDER, name), encoding="utf-8", newline="") as file:
        return file.read()


def told_by_new_process(seed, folder):
    around = {"PYTHONPATH": ROOT, "PYTHONHASHSEED": seed, "PYTHONDONTWRITEBYTECODE": "1"}
    done = subprocess.run([sys.executable, "-c", ASKED], cwd=folder, env=around, capture_output=True, text=True,
                          check=True)
    return done.stdout


class PackageTest(unittest.TestCase):
    def test_holds_python_files_alone(self):
        self.assertIn("__init__.py", package_files())
        for name in package_files():
            with self.subTest(name=name):
                self.assertRegex(name, r"\A[a-z0-9_]+\.py\Z")
                self.assertNotRegex(name, r"\A(test|tests|testing|test_.*|conftest)\.py\Z")

    def test_draws_from_its_own_modules_alone(self):
        for name in package_files():
            for node in ast.walk(ast.parse(text_of(name))):
                with self.subTest(name=name):
                    self.assertNotIsInstance(node, ast.Import)
                    if isinstance(node, ast.ImportFrom):
                        self.assertEqual(node.level, 0)
                        self.assertTrue(node.module.startswith("midpile."), node.module)

    def test_reaches_nothing_outside(self):
        for name in package_files():
            for node in ast.walk(ast.parse(text_of(name))):
                if isinstance(node, ast.Name):
                    with self.subTest(name=name, line=node.lineno):
                        self.assertNotIn(node.id, OUTSIDE)

    def test_signs_and_sizes(self):
        for name in package_files():
            text = text_of(name)
            with self.subTest(name=name):
                self.assertRegex(text, r"\A[ -~\n]*\Z")
                self.assertLessEqual(len(text.splitlines()), 400)
                self.assertLessEqual(max([len(line) for line in text.splitlines()], default=0), 120)
            for node in ast.walk(ast.parse(text)):
                if isinstance(node, ast.FunctionDef):
                    with self.subTest(name=name, function=node.name):
                        self.assertLessEqual(node.end_lineno - node.lineno + 1, 40)

    def test_words_that_stand_nowhere(self):
        for name in package_files():
            words = re.findall(r"[A-Za-z0-9_]+", text_of(name))
            with self.subTest(name=name):
                self.assertEqual([word for word in words if word in UNUSED_WORDS], [])
                self.assertNotRegex(text_of(name), "dataclass|overload|contextmanager")


class SameEverywhereTest(unittest.TestCase):
    def test_new_processes_in_other_folders_tell_the_same(self):
        with tempfile.TemporaryDirectory() as bare:
            told = [told_by_new_process("0", ROOT), told_by_new_process("1", bare), told_by_new_process("77", bare)]
            self.assertEqual(os.listdir(bare), [])
        self.assertEqual(len(told[0].splitlines()), 6 * 8 * 8 + 2 * (200 + 67) + 200 + 67 + 1)
        self.assertEqual(told[1], told[0])
        self.assertEqual(told[2], told[0])


if __name__ == "__main__":
    unittest.main()

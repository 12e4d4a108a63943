import pathlib
import unittest

import language

ROOT = pathlib.Path(__file__).resolve().parent.parent
FOLDER = ROOT / language.PACKAGE

# A text that breaks the rule, each.
BROKEN = (
    ("L6", "import os\n"),
    ("L2", "from os import path\n"),
    ("L2", "from .errors import NoCode\n"),
    ("L3", "print(1)\n"),
    ("L3", "A = len('x')\n"),
    ("L4", "def f(*xs):\n    return xs\n"),
    ("L5", "class A:\n    b = 1\n"),
    ("L6", "def f(x):\n    assert x\n"),
    ("L6", "def f(x):\n    a, b = x\n    return a\n"),
    ("L7", "def f(x):\n    return x / 2\n"),
    ("L7", "def f(x):\n    return 1.5\n"),
    ("L7", "def f(x):\n    return sum(y for y in x)\n"),
    ("L8", "def f(x):\n    return map(len, x)\n"),
    ("L10", "def f(x):\n" + "    x = 1\n" * 40),
    ("L10", "# " + "x" * 120 + "\n"),
    ("L12", "def f(x):\n    _y = x\n    return _y\n"),
    ("L14", "# \u00e9\n"),
    ("L15", "def f(sum):\n    return sum\n"),
    ("L15", "A = 1\nA = 2\n"),
    ("L3", "A = {1: [2]}\n"),
    ("L17", "# the type of it\n"),
    ("L19", "def f(x):\n    try:\n        return int(x)\n    except Exception:\n        return 0\n"),
    ("L20", "def f(x):\n    return x is 'a'\n"),
    ("L21", "def f(x: int):\n    return x\n"),
    ("L22", "def f(x):\n    return x.split(maxsplit=1)\n"),
    ("L23", "def f(x):\n    y = zip(x, x)\n    return y\n"),
    ("L27", "def f(x):\n    return 2 ** x\n"),
    ("L27", "A = '%'\n"),
)


class LanguageTest(unittest.TestCase):
    def sources(self):
        return {path.relative_to(ROOT).as_posix(): path.read_text(encoding="utf-8")
                for path in sorted(FOLDER.rglob("*.py"))}

    def test_every_file_keeps_to_the_language(self):
        sources = self.sources()
        self.assertIn("shortrows/errors.py", sources)
        for name, source in sources.items():
            self.assertEqual(language.faults(name, source), [])

    def test_the_package_as_a_whole(self):
        self.assertEqual(language.faults_of_all(self.sources()), [])

    def test_nothing_else_lies_in_the_package(self):
        for path in FOLDER.rglob("*"):
            if "__pycache__" in path.parts:
                continue
            self.assertTrue(path.is_dir() or path.suffix == ".py", path)
            if path.is_dir():
                self.assertTrue((path / "__init__.py").is_file(), path)

    def test_what_breaks_a_rule_is_found(self):
        for rule, source in BROKEN:
            rules = [fault.split(" ")[0] for fault in language.faults("shortrows/some.py", source)]
            self.assertIn(rule, rules, source)

    def test_what_breaks_a_rule_of_the_whole_is_found(self):
        one, other = "shortrows/one.py", "shortrows/other.py"
        draws_other = "from shortrows.other import two\n\n\ndef three(x):\n    return two(x)\n"
        draws_one = "from shortrows.one import three\n\n\ndef two(x):\n    return three(x)\n"
        self.assertIn("L16 " + one, language.faults_of_all({one: draws_other, other: draws_one}))
        self.assertEqual(language.faults_of_all({one: draws_other, other: ""}), ["L16 shortrows/one.py:1"])
        self.assertEqual(language.faults_of_all({one: "def f(x):\n    return x.title()\n"}), ["L25 shortrows/one.py:2"])
        both = "class A:\n    def f(self):\n        self.g = 1\n\n\nclass B:\n    def g(self):\n        pass\n"
        self.assertEqual(language.faults_of_all({one: both}), ["L18 g"])


if __name__ == "__main__":
    unittest.main()

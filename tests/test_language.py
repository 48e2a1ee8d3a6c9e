import pathlib
import re
import unittest

from language import PACKAGE, package_faults

FOLDER = pathlib.Path(__file__).resolve().parent.parent / PACKAGE

# Code that breaks a rule, by the rule's number; to each one a plain function is added.
BROKEN = (
    ("L2", "def f():\n    from bendfronts.b import g\n    return g()\n"),
    ("L2", "from .b import g\n"),
    ("L3", "X = len('a')\n"),
    ("L3", "if True:\n    pass\n"),
    ("L4", "def f(*xs):\n    return xs\n"),
    ("L5", "class A:\n    x = 1\n"),
    ("L5", "class A:\n    def __add__(self, b):\n        return b\n"),
    ("L6", "def f(x):\n    with x:\n        pass\n"),
    ("L6", "def f(x):\n    for y in x:\n        pass\n    else:\n        pass\n"),
    ("L7", "def f(x):\n    return x / 2\n"),
    ("L7", "def f(x):\n    return sum(y for y in x)\n"),
    ("L7", "def f(x):\n    return [*x]\n"),
    ("L7", "def f():\n    return 0.5\n"),
    ("L8", "def f(x):\n    return hash(x)\n"),
    ("L10", "def f():\n" + "    pass\n" * 40),
    ("L12", "def f(_x):\n    return 1\n"),
    ("L14", "# \u00e4\n"),
    ("L15", "def f(list):\n    return 1\n"),
    ("L15", "X = 1\nX = 2\n"),
    ("L15", "X = [[1]]\n"),
    ("L15", "from bendfronts.b import g\n\ndef f(g):\n    return g\n"),
    ("L15", "class A:\n    pass\n\ndef f():\n    A = 1\n    return A\n"),
    ("L16", "import sys\n"),
    ("L16", "from bendfronts.b import h\n"),
    ("L17", "# a type\n"),
    ("L18", "class A:\n    def m(self):\n        self.m = 1\n"),
    ("L18", "def f(x):\n    return x.far\n"),
    ("L19", "def f(x):\n    try:\n        return x[0]\n    except Exception:\n        return 0\n"),
    ("L19", "def f(x):\n    raise x\n"),
    ("L20", "def f(x):\n    return x is 1\n"),
    ("L22", "from bendfronts.b import g\n\ndef f(x):\n    return g(x)\n"),
    ("L25", "def f(x):\n    return x.union(x)\n"),
    ("L27", "def f(n):\n    return 2 ** n\n"),
    ("L27", "X = '%'\n"),
)


class Language(unittest.TestCase):
    def test_the_package_keeps_the_rules(self):
        files = {}
        for path in FOLDER.rglob("*.py"):
            parts = path.relative_to(FOLDER.parent).with_suffix("").parts
            files[".".join(parts)] = path.read_text(encoding="utf-8")
        self.assertIn(PACKAGE + ".__init__", files)
        self.assertEqual(package_faults(files), [])

    def test_the_folder_holds_files_with_plain_names_only(self):
        for path in FOLDER.rglob("*"):
            if "__pycache__" not in path.parts and path.is_file():
                self.assertTrue(re.fullmatch(r"(__init__|[a-z][a-z0-9_]*)\.py", path.name), path)

    def test_broken_rules_are_seen(self):
        for rule, text in BROKEN:
            with self.subTest(rule=rule, text=text):
                files = {"bendfronts.a": text, "bendfronts.b": "def g():\n    return 1\n"}
                self.assertIn(rule, [fault.split()[1] for fault in package_faults(files)])

    def test_files_that_import_from_each_other_are_seen(self):
        files = {
            "bendfronts.a": "from bendfronts.b import g\n\ndef f():\n    return g()\n",
            "bendfronts.b": "from bendfronts.c import h\n\ndef g():\n    return h()\n",
            "bendfronts.c": "from bendfronts.a import f\n\ndef h():\n    return f()\n",
        }
        self.assertEqual(len(package_faults(files)), 3)


if __name__ == "__main__":
    unittest.main()

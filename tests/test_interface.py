"""The interface has the names and arguments of the document, and the package its rules of language."""

import importlib
import inspect
import pathlib
import re
import types
import unittest
import warnings

from flow import flow_problems
from language import problems

PACKAGE = pathlib.Path(__file__).resolve().parent.parent / "finestcuts"

FUNCTIONS = {
    "deeds": {"is_sum": "(value)", "is_deed": "(value)", "do_clash": "(one, other)"},
    "texts": {"format_system": "(system)", "parse_system": "(text)"},
    "calls": {
        "is_call": "(system, value)",
        "deeds_of": "(system, call)",
        "perform": "(system, call, store)",
        "apply": "(deed, item, value, amount)",
    },
    "runs": {"all_rows": "(cutting, calls)"},
    "orders": {
        **{name: "(run)" for name in ("arrows", "order", "exchanges", "ring")},
        **{"is_order": "(run, value)", "is_ring": "(run, value)", "exchanged": "(run, position)"},
    },
    "ways": {
        "way": "(system, name, first, last)",
        "is_way": "(system, name, first, last, value)",
        "bad_pairs": "(system, name)",
        "loops": "(system, name)",
    },
    "finest": {
        **{name: "(cutting)" for name in ("is_right", "wrong_cuts", "wrong_run")},
        "finest": "(system)",
    },
    "papers": {"right_paper": "(cutting)", "is_right_paper": "(cutting, value)"},
    "freeing": {"without": "(cutting)", "promised": "(cutting, pairs)"},
    "chains": {
        "keeps": "(kind)",
        "is_chain": "(kind, value)",
        "free_sets": "(system, name)",
        **{name: "(system, name, costs)" for name in ("cheapest", "heights")},
        "is_heights": "(system, name, costs, value)",
        "ordered": "(system, chains)",
    },
    "changes": {"broken": "(cutting, kind)"},
    "histories": {
        "reads": "(run, store)",
        "find_wrong": "(run, store, told)",
        "best_store": "(run, told)",
    },
    "journal": {name: "(cutting, store, text)" for name in ("recover", "resume")},
    "campaigns": {"share": "(cutting, calls)", "stores": "(cutting, calls, store)"},
}
CLASSES = {
    "errors": {
        **{
            "Invalid" + name: "(value)"
            for name in "Item Kinds System Store Call Cutting Cuts Row Run Order Costs Number Text".split()
        },
        **{"InvalidKind": "(part)", "ParseError": "(line)", "TooMany": "(limit)"},
        **{"UnknownKind": "(value)", "UnknownCall": "(value)"},
        **{"NoPiece": "(number)", "NotOpen": "(number)", "StillOpen": "(number)"},
        **{name: None for name in ("CutError", "InvalidLine", "NotInOrder", "NoSystem", "NoEngine")},
    },
    "kinds": {"Kind": "(name, parameters, steps, unlike=(), backs=False, alone=False, most=6)"},
    "systems": {"System": "(kinds, most=12)"},
    "cuttings": {"Cutting": "(system, cuts)"},
    "runs": {"Run": "(cutting, calls, row=())"},
    "costs": {"Costs": "(durations=None, weights=None, price=0)"},
    "changes": {"Design": "(cutting)"},
    "engines": {"Engine": "(cutting, store=None)"},
    "journal": {"Journal": "(engine)"},
    "console": {"Console": "()"},
}
SIGNS = {
    "Kind": "init len eq",
    "System": "init len eq getitem contains add sub",
    "Cutting": "init len eq iter contains or and sub",
    "Run": "init len eq rshift call",
    "Costs": "init eq call",
    "Engine": "init eq irshift",
    "Design": "init eq",
    "Journal": "init eq",
    "Console": "init eq",
}
METHODS = {
    "Cutting": {
        "whole": "(system)",
        "single": "(system)",
        "pieces": "(self, name)",
        "is_coarser": "(self, other)",
    },
    "Run": {"left": "(self, number)", "performed": "(self, position)", "__call__": "(self, store)"},
    "Costs": {"__call__": "(self, kind, chain)"},
    "Design": {
        **{name: "(self)" for name in ("refine", "undo", "trial")},
        **{name: "(self, cuts)" for name in ("cut", "join")},
        **{"add": "(self, kind)", "drop": "(self, name)", "tried": "(self, kinds)"},
    },
    "Engine": {
        **{name: "(self)" for name in ("crash", "finish", "able", "copy")},
        **{name: "(self, number)" for name in ("lock", "commit", "leave")},
        "begin": "(self, call)",
    },
    "Journal": {
        **{name: "(self)" for name in ("finish", "engine", "text")},
        **{"begin": "(self, call)", "commit": "(self, number)"},
    },
    "Console": {"answer": "(self, line)"},
}
PROPERTIES = {"Costs": "durations weights", "Engine": "store run marks locks"}


def listed(table):
    for module, rows in table.items():
        for name, arguments in rows.items():
            yield f"finestcuts.{module}", name, arguments


class TestInterface(unittest.TestCase):
    def check(self, module, name, arguments):
        value = getattr(importlib.import_module(module), name)
        self.assertEqual((value.__module__, value.__name__), (module, name))
        if arguments is not None:
            self.assertEqual(str(inspect.signature(value)), arguments)
        return value

    def test_functions(self):
        for module, name, arguments in listed(FUNCTIONS):
            with self.subTest(name):
                self.assertIsInstance(self.check(module, name, arguments), types.FunctionType)

    def test_classes(self):
        for module, name, arguments in listed(CLASSES):
            with self.subTest(name):
                value = self.check(module, name, arguments)
                self.assertIs(type(value), type)
                missing = [word for word in SIGNS.get(name, "").split() if f"__{word}__" not in vars(value)]
                self.assertEqual(missing, [])
                for method, taken in METHODS.get(name, {}).items():
                    self.assertIn(method, vars(value))
                    self.assertEqual(str(inspect.signature(getattr(value, method))), taken)
                for word in PROPERTIES.get(name, "").split():
                    self.assertIsInstance(vars(value)[word], property)
                if arguments is not None:
                    self.assertIn("__init__", vars(value))


class TestLanguage(unittest.TestCase):
    def test_files(self):
        files = [path for path in PACKAGE.iterdir() if path.name != "__pycache__"]
        self.assertIn("__init__.py", [path.name for path in files])
        for path in files:
            self.assertRegex(path.name, "^([a-z][a-z0-9_]*|__init__|__main__)[.]py$")
            self.assertTrue(path.is_file())

    def test_rules(self):
        files = [path for path in PACKAGE.glob("*.py") if path.name != "__init__.py"]
        texts = {f"finestcuts.{path.stem}": path.read_text(encoding="utf-8") for path in files}
        self.assertEqual(problems(texts), [])
        self.assertEqual(flow_problems(texts), [])
        self.assertGreater(len(texts), 2)
        with warnings.catch_warnings():
            warnings.simplefilter("error")
            for module, text in texts.items():
                compile(text, module, "exec")

    def test_broken_rules_are_found(self):
        broken = (
            ("L2", "import math\n"),
            ("L2", "from os import path\n"),
            ("L2", "from .b import f\n"),
            ("L2", "from finestcuts.b import no\n"),
            ("L3", "X = len('a')\n"),
            ("L3", "for x in (1, 2):\n    pass\n"),
            ("L4", "@f\nclass A:\n    pass\n"),
            ("L5", "class A:\n    def __hash__(self):\n        return 1\n"),
            ("L5", "class A:\n    def __getitem__(self, at):\n        return at\n"),
            ("L5", "class A:\n    def __contains__(self, x):\n        self.x = x\n        return True\n"),
            ("L5", "class A:\n    def __add__(self, x):\n        x.append(self)\n        return x\n"),
            ("L28", "class A:\n    def __eq__(self, x):\n        n = 1\n        n += 1\n        return n == x\n"),
            ("L28", "class A:\n    def __len__(self):\n        return self.n\n"),
            ("L18", "class A:\n    def f(self):\n        pass\n\n    def f(self):\n        pass\n"),
            ("L24", "def f(x):\n    return [y for y in set(x)]\n"),
            ("L24", "def f(x):\n    for y in {x, 1}:\n        return y\n"),
            ("L6", "async def f():\n    pass\n"),
            ("L7", "X = 1.5\n"),
            ("L7", "def f(x):\n    return x / 2\n"),
            ("L7", "def f(x):\n    return any(y for y in x)\n"),
            ("L8", "def f(x):\n    return chr(x)\n"),
            ("L10", "# " + "a" * 119 + "\n"),
            ("L10", "#\n" * 400),
            ("L10", "def f(x):\n" + "    x = 1\n" * 40),
            ("L14", "# \u00e4\n"),
            ("L15", "def f(sum):\n    return sum\n"),
            ("L15", "X = 1\nX = 2\n"),
            ("L16", "from finestcuts.a import f\n\n\ndef f():\n    pass\n"),
            ("L17", "def f(law):\n    return law\n"),
            ("L19", "def f():\n    try:\n        return 1\n    except TypeError:\n        return 2\n"),
            ("L20", "def f(x, y):\n    return x is y\n"),
            ("L2", "from itertools import product\n"),
            ("L5", "def f(x):\n    return list(reversed(x))\n"),
            ("L25", "def f(x):\n    return x.issuperset(())\n"),
            ("L25", "def f(x):\n    x.sort()\n"),
            ("L27", "X = 'a" + chr(37) + "'\n"),
        )
        for rule, text in broken:
            with self.subTest(text[:60]):
                texts = {"finestcuts.a": text, "finestcuts.b": "def f():\n    pass\n"}
                self.assertTrue([told for told in problems(texts) if re.search(rf"\b{rule}\b", told)], problems(texts))

    def test_broken_rules_of_what_is_called_are_found(self):
        head = "class A:\n    def __rshift__(self, x):\n        return self.f(x)\n\n    def f(self, x):\n"
        made = "class A:\n    def __eq__(self, x):\n        return B(x)\n\n\nclass B:\n    def __init__(self, x):\n"
        found = (
            head + "        return g(x)\n\n\ndef g(x):\n    n = 0\n    n |= x\n    return n\n",
            head + "        return 1\n\n\nclass B:\n    def f(self, x):\n        self.x = x\n",
            head + "        x[0] = 1\n        return x\n",
            head + "        return x(1)\n",
            head + "        y = self.x\n        return y(1)\n",
            head + "        y = x\n        y.append(1)\n        return y\n",
            "class A:\n    @property\n    def f(self):\n        self.n = 1\n        return 1\n",
            made + "        x.n = 1\n",
            "def f(x):\n    y = z = x\n    y |= z\n",
            "def f(x):\n    for y in x:\n        z = []\n        z.append(y)\n        x = z\n",
            "def f(x):\n    for y in x:\n        x.append(y)\n",
            "def f(x):\n    for y in enumerate(x.y):\n        x.y[0] = y\n",
            "class A:\n    def f(self):\n        self.n = 1\n\n\nclass B:\n    def n(self):\n        return 1\n",
        )
        right = (
            head + "        return g(x)\n\n\ndef g(x):\n    n = 0\n    n = n | x\n    n += 1\n    return n\n",
            head + "        y = [*x]\n        y.append(1)\n        return y\n",
            "class A:\n    def __irshift__(self, x):\n        self.n = x\n        return self\n",
            made + "        self.n = x\n",
            "def f(x):\n    for y in list(x):\n        x.append(y)\n",
            "def f(x):\n    for y in enumerate(x.y):\n        x.z[0] = y\n",
        )
        for texts, expected in ((found, True), (right, False)):
            for text in texts:
                with self.subTest(text):
                    self.assertIs(bool(flow_problems({"finestcuts.a": text})), expected)


if __name__ == "__main__":
    unittest.main()

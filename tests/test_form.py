"""The form of the package: sizes, characters, imports and builtins, as far as a test can see them."""

import ast
import builtins
import pathlib
import unittest
import warnings

PACKAGE = pathlib.Path(__file__).resolve().parent.parent / "speaklast"
BUILTINS = set("""len range enumerate zip min max sum abs sorted reversed int str bool bytes list tuple dict set
    frozenset isinstance ord repr any all divmod iter next map super property staticmethod classmethod
    Exception ValueError TypeError KeyError IndexError LookupError ZeroDivisionError ArithmeticError
    OverflowError RuntimeError NotImplementedError AttributeError StopIteration NotImplemented""".split())
LIBRARY = {"heapq", "math", "itertools"}
HOLDING = {"take", "make", "rows", "__call__", "__len__"}

# Where the interface wants each name: the functions, and the methods of each class.
INTERFACE = {
    "errors.py": {name: {"__init__"} for name in (
        "FeedError", "InvalidTable", "InvalidChange", "InvalidSite", "InvalidFeed", "InvalidNet", "InvalidStep",
        "InvalidText", "UnknownCommand", "UnknownName", "InvalidUndo", "InvalidFall", "NothingPending", "Blocked",
        "TooMany")},
    "ranges.py": {"Ranges": {"of", "between", "full", "empty", "__or__", "__and__", "__sub__", "__eq__", "is_within",
                             "__contains__", "__bool__", "sample"}},
    "filters.py": {"Filter": {"within", "missing", "always", "never", "__and__", "__or__", "__invert__", "__call__",
                              "__eq__"}},
    "tables.py": {"Table": {"__init__", "of", "__eq__", "is_row", "key_of", "cut"},
                  "Truth": {"__init__", "insert", "update", "delete", "rows", "stamp", "row_of", "stamp_of", "__len__",
                            "__contains__"}},
    "sites.py": {"Site": {"__init__", "of", "policy", "change_policy"}},
    "feeds.py": {"Feed": {"__init__"}},
    "nets.py": {"Net": {"__init__", "of", "site", "feed", "into", "out_of", "with_policy", "with_filter", "with_feed",
                        "without", "joined", "__contains__", "__len__", "__eq__", "__repr__"}},
    "messages.py": {"message_for": None, "stamped_message": None},
    "policies.py": {
        "Holding": {"__init__"} | HOLDING, "Waiting": HOLDING, "Skipping": HOLDING, "Putting": HOLDING,
        "Sharing": HOLDING | {"share"}, "Stamping": HOLDING | {"stamp_of"}, "holding_for": None},
    "runs.py": {"play": None, "Run": {
        "__init__", "make", "deliver", "fall", "pending", "sent", "held", "made", "wanted", "right", "net", "resting",
        "stuck", "settle", "events", "undo", "twin", "trial", "on_trial", "__eq__", "__len__", "leave", "sweep", "copy",
        "again", "rest"}},
    "cells.py": {"Grid": {"__init__", "stretches", "cell_of", "cells", "__contains__", "sample"}},
    "asked.py": {"asked": None, "speakers": None},
    "rules.py": {"failings": None},
    "papers.py": {"shows_right": None},
    "rings.py": {"rings": None, "ahead": None, "flow": None},
    "judging.py": {"judged": None},
    "wrongs.py": {"wrong_run": None, "shows_wrong": None, "fewest_changes": None},
    "ways.py": {"ways": None, "keeps_whole": None, "shows_mixed": None},
    "plans.py": {"plan": None, "classes": None, "forced": None, "shows_plan": None, "do_steps": None},
    "mends.py": {"mend": None},
    "texts.py": {"show_" + word: None for word in ("ranges", "filter", "table", "net", "events")},
    "reader.py": {"read_" + word: None for word in ("ranges", "filter", "table", "net", "events")},
    "shell.py": {"Shell": {"__init__", "say", "say_all"}},
}


def sources():
    return [(path, path.read_text(encoding="utf-8")) for path in sorted(PACKAGE.glob("*.py"))]


class FormTest(unittest.TestCase):
    def test_the_folder_holds_python_files_alone(self):
        found = [path.name for path in PACKAGE.iterdir() if path.name != "__pycache__"]
        self.assertIn("__init__.py", found)
        self.assertEqual([name for name in found if not name.endswith(".py")], [])

    def test_characters_and_sizes(self):
        for path, text in sources():
            self.assertTrue(all(" " <= sign <= "~" or sign == "\n" for sign in text), path.name)
            lines = text.split("\n")
            self.assertLess(len(lines), 400, path.name)
            self.assertLessEqual(max(len(line) for line in lines), 120, path.name)

    def test_python_gives_no_warning(self):
        with warnings.catch_warnings():
            warnings.simplefilter("error")
            for path, text in sources():
                compile(text, path.name, "exec")

    def test_functions_have_at_most_forty_lines(self):
        for path, text in sources():
            for node in ast.walk(ast.parse(text)):
                if isinstance(node, ast.FunctionDef):
                    self.assertLessEqual(node.end_lineno - node.lineno + 1, 40, (path.name, node.name))

    def test_imports_are_from_the_package(self):
        for path, text in sources():
            for node in ast.walk(ast.parse(text)):
                self.assertNotIsInstance(node, ast.Import, path.name)
                if isinstance(node, ast.ImportFrom):
                    known = node.module.startswith("speaklast.") or node.module in LIBRARY
                    self.assertTrue(known and node.level == 0, (path.name, node.module))

    def test_only_the_allowed_builtins_are_named(self):
        barred = set(dir(builtins)) - BUILTINS - {"__name__", "__doc__"}
        for path, text in sources():
            named = {node.id for node in ast.walk(ast.parse(text)) if isinstance(node, ast.Name)}
            self.assertEqual(named & barred, set(), path.name)

    def test_the_interface_is_defined_where_it_is_listed(self):
        for name, wanted in INTERFACE.items():
            body = ast.parse((PACKAGE / name).read_text(encoding="utf-8")).body
            found = {node.name: node for node in body if isinstance(node, (ast.ClassDef, ast.FunctionDef))}
            for title, methods in wanted.items():
                self.assertIn(title, found, name)
                self.assertIsInstance(found[title], ast.FunctionDef if methods is None else ast.ClassDef)
                own = {node.name for node in found[title].body if isinstance(node, ast.FunctionDef)}
                self.assertEqual((methods or set()) - own, set(), (name, title))


if __name__ == "__main__":
    unittest.main()

"""The narrow Python of the package, as far as a test can see it: a part of what ../shared/LANGUAGE.md says."""

import ast
import builtins
import pathlib
import re
import unittest

PACKAGE = pathlib.Path(__file__).resolve().parent.parent / "speaklast"
TREES = {path.name: ast.parse(path.read_text(encoding="utf-8")) for path in sorted(PACKAGE.glob("*.py"))}
BUILT_IN_METHODS = set("""append clear copy count endswith extend find get index insert isalnum isalpha isdigit islower
    isspace isupper items join keys ljust lower lstrip partition pop remove replace reverse rfind rjust rpartition
    rsplit rstrip setdefault split splitlines startswith strip update upper values zfill bit_length""".split())
MODIFYING = {"append", "clear", "extend", "insert", "pop", "remove", "reverse", "setdefault", "update"}
DOUBLE = set("""__init__ __eq__ __repr__ __str__ __len__ __enter__ __exit__ __call__ __contains__ __bool__ __or__
    __and__ __sub__ __invert__""".split())
BARRED_NAMES = set("""register mro elements open input law version_info with_traceback add_note attrgetter breakpoint
    builtins compile copyright credits delattr dir eval exec exit gc getattr globals hasattr help id importlib license
    locals methodcaller os quit setattr super type vars sys""".split())
BARRED_ATTRIBUTES = set("""items keys values pop update append clear extend insert remove reverse setdefault sort args
    encode decode hex fromhex format format_map mro""".split())
BARRED_WORDS = re.compile(r"\\b(type|typing|enum|Enum|Flag|Generic|Protocol|ABC|namedtuple|NamedTuple)\\b|dataclass|overload"
                          r"|contextmanager|_wall")
ON_THE_SPOT = {"zip", "enumerate", "reversed", "items", "keys", "values"}
TAKERS = {"list", "tuple", "dict", "sorted", "sum", "any", "all", "enumerate", "zip"}
PLAIN = (ast.Constant, ast.List, ast.Tuple, ast.Dict, ast.UnaryOp, ast.BinOp)


def nodes(kind):
    return [(name, node) for name, tree in TREES.items() for node in ast.walk(tree) if isinstance(node, kind)]


def classes():
    return [node for _, node in nodes(ast.ClassDef)]


def functions():
    return [node for _, node in nodes(ast.FunctionDef)]


def methods_of(node):
    return [part for part in node.body if isinstance(part, ast.FunctionDef)]


def is_property(node):
    return any(isinstance(mark, ast.Name) and mark.id == "property" for mark in node.decorator_list)


def assigned_attributes(node):
    """The names of the attributes that are assigned anywhere below a node."""
    return {part.attr for part in ast.walk(node) if isinstance(part, ast.Attribute) and isinstance(part.ctx, ast.Store)}


def called_name(node):
    """The bare name of what a call calls, or of the method."""
    if isinstance(node, ast.Call) and isinstance(node.func, ast.Name):
        return node.func.id
    return node.func.attr if isinstance(node, ast.Call) and isinstance(node.func, ast.Attribute) else None


def local_names(node):
    """The parameters and all names that a function assigns."""
    given = node.args.posonlyargs + node.args.args + node.args.kwonlyargs + [
        one for one in (node.args.vararg, node.args.kwarg) if one is not None]
    stored = {part.id for part in ast.walk(node) if isinstance(part, ast.Name) and isinstance(part.ctx, ast.Store)}
    return stored | {one.arg for one in given}


GENERATORS = {node.name for node in functions() if any(isinstance(part, (ast.Yield, ast.YieldFrom)) for part in ast.walk(node))}


class StatementsTest(unittest.TestCase):
    def test_module_level(self):
        for name, tree in TREES.items():
            for at, node in enumerate(tree.body):
                if isinstance(node, ast.Expr):
                    self.assertTrue(at == 0 and isinstance(node.value, ast.Constant), name)
                elif isinstance(node, ast.Assign):
                    self.assertEqual((len(node.targets), type(node.targets[0])), (1, ast.Name), name)
                    self.assertIsInstance(node.value, PLAIN, name)
                else:
                    self.assertIsInstance(node, (ast.ImportFrom, ast.FunctionDef, ast.ClassDef), name)

    def test_statements_and_expressions_that_the_package_does_without(self):
        barred = (ast.Global, ast.Nonlocal, ast.With, ast.Lambda, ast.GeneratorExp, ast.AsyncFunctionDef, ast.Await,
                  ast.AnnAssign, ast.NamedExpr, ast.SetComp, ast.Set, ast.YieldFrom, ast.Div, ast.Import, ast.Match, ast.Assert)
        self.assertEqual([(name, node.lineno) for name, node in nodes(barred)], [])

    def test_errors_that_are_caught_are_the_package_s_own(self):
        own = {node.name for node in ast.walk(TREES["errors.py"]) if isinstance(node, ast.ClassDef)}
        for name, node in nodes(ast.Try):
            self.assertEqual((node.finalbody, node.orelse), ([], []), name)
            for handler in node.handlers:
                caught = handler.type.elts if isinstance(handler.type, ast.Tuple) else [handler.type]
                self.assertLessEqual({one.id for one in caught}, own, name)

    def test_no_function_stands_in_a_function(self):
        for node in functions():
            inner = [part for part in ast.walk(node) if isinstance(part, (ast.FunctionDef, ast.ClassDef)) and part is not node]
            self.assertEqual(inner, [], node.name)

    def test_decorators_and_methods_with_two_underscores(self):
        for node in functions():
            for mark in node.decorator_list:
                word = mark.attr if isinstance(mark, ast.Attribute) else mark.id
                self.assertIn(word, ("property", "setter", "staticmethod", "classmethod"))
            if node.name.startswith("__"):
                self.assertIn(node.name, DOUBLE)
            self.assertFalse(node.returns or [one for one in node.args.args if one.annotation], node.name)

    def test_is_stands_beside_none_true_and_false(self):
        for name, node in nodes(ast.Compare):
            for sign, right in zip(node.ops, node.comparators):
                if isinstance(sign, (ast.Is, ast.IsNot)):
                    self.assertTrue(isinstance(right, ast.Constant) and right.value in (None, True, False), (name, node.lineno))

    def test_no_power_but_of_plain_numbers(self):
        for name, node in nodes(ast.Pow):
            self.assertEqual(name, "kinds.py")

    def test_no_two_files_import_from_each_other(self):
        beyond = {name: {node.module.split(".")[1] + ".py" for node in tree.body if isinstance(node, ast.ImportFrom)}
                  for name, tree in TREES.items()}
        for _ in TREES:
            beyond = {name: found.union(*[beyond[other] for other in found]) for name, found in beyond.items()}
        self.assertEqual([name for name, found in beyond.items() if name in found], [])

    def test_imported_names_are_defined_where_they_are_imported_from(self):
        defined = {name: {node.name for node in tree.body if isinstance(node, (ast.FunctionDef, ast.ClassDef))}
                   | {node.targets[0].id for node in tree.body if isinstance(node, ast.Assign)} for name, tree in TREES.items()}
        for name, node in nodes(ast.ImportFrom):
            for one in node.names:
                self.assertIn(one.name, defined[node.module.split(".")[1] + ".py"], name)
                used = [part for part in ast.walk(TREES[name]) if isinstance(part, ast.Name) and part.id == one.name]
                self.assertTrue(used, (name, one.name))


class NamesTest(unittest.TestCase):
    def test_names_are_plain_and_free(self):
        taken = set(dir(builtins)) | BARRED_NAMES
        for name, tree in TREES.items():
            bound = {one.asname or one.name for node in tree.body if isinstance(node, ast.ImportFrom) for one in node.names}
            bound |= {node.name for node in tree.body if isinstance(node, ast.ClassDef)}
            for node in [node for node in ast.walk(tree) if isinstance(node, ast.FunctionDef)]:
                for local in local_names(node):
                    self.assertRegex(local, r"^(_|[A-Za-z][A-Za-z0-9_]*)$")
                    self.assertNotIn(local, taken | bound, (name, node.name))
            for node in tree.body:
                if isinstance(node, (ast.FunctionDef, ast.ClassDef)):
                    self.assertNotIn(node.name, taken, name)

    def test_no_method_is_an_attribute_of_its_class_and_no_property_one_of_any(self):
        properties = {part.name for node in classes() for part in methods_of(node) if is_property(part)}
        families = {node.name: [node] + [other for other in classes() if node.name in [getattr(base, "id", "") for base in other.bases]]
                    for node in classes()}
        for node in classes():
            methods = {part.name for one in families[node.name] for part in methods_of(one)} - {"policy"}
            attributes = {name for one in families[node.name] for name in assigned_attributes(one)} - {"policy"}
            self.assertEqual(methods & attributes, set(), node.name)
            self.assertEqual(attributes & (properties | GENERATORS | BARRED_ATTRIBUTES), set(), node.name)

    def test_names_of_class_methods_mean_nothing_else_in_a_class(self):
        marked = [part for node in classes() for part in methods_of(node)
                  if any(isinstance(mark, ast.Name) and mark.id == "classmethod" for mark in part.decorator_list)]
        names = {node.name for node in marked}
        plain = {part.name for node in classes() for part in methods_of(node) if part not in marked}
        attributes = {name for node in classes() for name in assigned_attributes(node)}
        self.assertEqual(names & (plain | attributes | BUILT_IN_METHODS), set())

    def test_each_attribute_that_is_read_is_assigned_or_defined(self):
        known = BUILT_IN_METHODS | {name for node in classes() for name in assigned_attributes(node)}
        known |= {part.name for node in classes() for part in methods_of(node)}
        known |= {part.targets[0].id for node in classes() for part in node.body if isinstance(part, ast.Assign)} | {"setter"}
        for name, node in nodes(ast.Attribute):
            self.assertIn(node.attr, known, (name, node.lineno))

    def test_strings(self):
        for name, node in nodes(ast.Constant):
            if isinstance(node.value, str):
                self.assertNotIn("%", node.value, name)
                self.assertNotRegex(node.value, r"^__.*__$|\\._+$", name)
        for path in sorted(PACKAGE.glob("*.py")):
            code = re.sub(r'""".*?"""|#.*', "", path.read_text(encoding="utf-8"), flags=re.DOTALL)
            self.assertIsNone(BARRED_WORDS.search(code), path.name)
            self.assertNotIn("\\\\", code, path.name)


class CallsTest(unittest.TestCase):
    def parents(self, tree):
        return {child: node for node in ast.walk(tree) for child in ast.iter_child_nodes(node)}

    def is_iterated(self, node, parents):
        """Whether a call stands where it is iterated at once."""
        above = parents[node]
        if isinstance(above, (ast.For, ast.comprehension)):
            return above.iter is node
        return isinstance(above, ast.Call) and called_name(above) in TAKERS and isinstance(above.func, ast.Name) and above.args[0] is node

    def test_iterators_and_generators_are_iterated_at_once(self):
        for name, tree in TREES.items():
            parents = self.parents(tree)
            for node in ast.walk(tree):
                word = called_name(node)
                if word in ON_THE_SPOT | GENERATORS | {"range"}:
                    self.assertTrue(self.is_iterated(node, parents), (name, node.lineno))

    def test_generators_have_names_of_their_own(self):
        for word in GENERATORS:
            self.assertEqual([node.name for node in functions()].count(word), 1, word)
            self.assertNotIn(word, BUILT_IN_METHODS)
            called = [node for _, node in nodes(ast.Call) if isinstance(node.func, ast.Name) and node.func.id == word]
            values = [node for _, node in nodes(ast.Name) if node.id == word and isinstance(node.ctx, ast.Load)]
            locals_called = [node for node in functions() if word in local_names(node)
                             and any(isinstance(part, ast.Call) and called_name(part) == word for part in ast.walk(node))]
            self.assertEqual(locals_called, [], word)
            if word in ("failings", "rings"):
                self.assertEqual(len(called), len(values), word)

    def test_sets_stand_only_in_sorted_and_len(self):
        for name, tree in TREES.items():
            parents = self.parents(tree)
            for node in ast.walk(tree):
                if isinstance(node, ast.Call) and called_name(node) == "set":
                    self.assertIn(called_name(parents[node]), ("sorted", "len"), (name, node.lineno))

    def test_keywords_of_builtins(self):
        own = {node.name for node in functions()} | {node.name for node in classes()}
        for name, node in nodes(ast.Call):
            if node.keywords and called_name(node) not in own:
                self.assertEqual((called_name(node), [word.arg for word in node.keywords]), ("sorted", ["key"]), name)
            if node.keywords and called_name(node) in BUILT_IN_METHODS:
                self.fail((name, node.lineno))

    def test_stars_stand_behind_names(self):
        for name, node in nodes(ast.Starred):
            self.assertIsInstance(node.value, ast.Name, name)

    def test_lists_stand_in_all_and_any(self):
        for name, node in nodes(ast.Call):
            if called_name(node) in ("any", "all", "sum") and isinstance(node.func, ast.Name):
                self.assertIsInstance(node.args[0], ast.ListComp, name)

    def test_what_is_iterated_over_is_not_changed(self):
        for name, node in nodes(ast.For):
            gone_over = {ast.dump(part).replace("Store()", "Load()") for part in ast.walk(node.iter)
                         if isinstance(part, (ast.Name, ast.Attribute))}
            for part in [part for line in node.body for part in ast.walk(line)]:
                changed = []
                if isinstance(part, ast.Call) and isinstance(part.func, ast.Attribute) and part.func.attr in MODIFYING:
                    changed = [part.func.value]
                if isinstance(part, ast.Subscript) and not isinstance(part.ctx, ast.Load):
                    changed = [part.value]
                if isinstance(part, ast.Attribute) and isinstance(part.ctx, ast.Store):
                    changed = [part]
                for one in changed:
                    dumped = ast.dump(one).replace("Store()", "Load()")
                    self.assertNotIn(dumped, gone_over, (name, part.lineno))

    def test_properties_and_operators_call_nothing_that_modifies(self):
        bodies = {}
        for node in functions():
            bodies.setdefault(node.name, []).append(node)
        waiting = [node for node in functions() if is_property(node) or node.name in DOUBLE - {"__init__", "__enter__", "__exit__", "__call__"}]
        seen = []
        while waiting:
            node = waiting.pop()
            seen.append(node)
            made = {part.targets[0].id for part in ast.walk(node) if isinstance(part, ast.Assign) and isinstance(part.targets[0], ast.Name)
                    and isinstance(part.value, (ast.List, ast.ListComp))}
            for part in ast.walk(node):
                if isinstance(part, (ast.Attribute, ast.Subscript)):
                    self.assertIsInstance(part.ctx, ast.Load, node.name)
                if isinstance(part, ast.Call) and isinstance(part.func, ast.Attribute) and part.func.attr in MODIFYING:
                    self.assertIsInstance(part.func.value, ast.Name, node.name)
                    self.assertIn(part.func.value.id, made, node.name)
                self.assertNotIsInstance(part, ast.AugAssign, node.name)
                for other in bodies.get(called_name(part), ()):
                    if other not in seen and other not in waiting and other.name not in BUILT_IN_METHODS:
                        waiting.append(other)


if __name__ == "__main__":
    unittest.main()

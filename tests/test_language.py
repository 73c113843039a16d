"""Rules of the language that can be seen in the text of the package."""

import ast
import re
import unittest
from pathlib import Path

FOLDER = Path(__file__).resolve().parent.parent / "joinedguests"
NODES = (
    ast.GeneratorExp, ast.AsyncFunctionDef, ast.Global, ast.Nonlocal, ast.Lambda, ast.AnnAssign,
    ast.NamedExpr, ast.Starred, ast.Div,
)
DUNDERS = {
    "__init__", "__eq__", "__len__", "__iter__", "__contains__", "__or__", "__and__", "__invert__", "__str__",
    "__enter__", "__exit__",
}
BUILTINS = {
    "len", "range", "enumerate", "zip", "sum", "sorted", "list", "tuple", "set", "isinstance", "any", "all", "iter",
    "min", "max", "abs", "dict", "int", "str", "AttributeError",
}
METHODS = {
    "append", "extend", "pop", "values", "items", "keys", "get", "update", "split", "partition", "join",
    "setdefault", "index",
}
BARRED_WORDS = re.compile(
    r"\b(type|typing|enum|Enum|Flag|Generic|Protocol|ABC|namedtuple|register|mro|elements|open|input|law)\b")


def trees():
    for path in sorted(FOLDER.glob("*.py")):
        text = path.read_text(encoding="ascii")
        yield path.name, text, ast.parse(text)


def properties():
    """For each name of a property, for each class that has it in the order of files, whether it has a setter."""
    found = {}
    for _, _, tree in trees():
        for node in tree.body:
            if isinstance(node, ast.ClassDef):
                parts = [part for part in node.body if isinstance(part, ast.FunctionDef) and part.decorator_list]
                told = {(part.name, ast.unparse(part.decorator_list[0])) for part in parts}
                for word, decorator in sorted(told):
                    if decorator == "property":
                        found.setdefault(word, []).append((word, word + ".setter") in told)
    return found


class TestLanguage(unittest.TestCase):
    def test_files(self):
        names = [path.name for path in FOLDER.iterdir() if path.name != "__pycache__"]
        self.assertIn("__init__.py", names)
        for name in names:
            self.assertRegex(name, r"^[a-z_]+\.py$")

    def test_sizes_and_characters(self):
        for name, text, tree in trees():
            lines = text.split("\n")
            self.assertLessEqual(len(lines), 400, name)
            for at, line in enumerate(lines):
                self.assertLessEqual(len(line), 120, (name, at + 1))
                self.assertNotIn("\t", line, (name, at + 1))
            for node in ast.walk(tree):
                if isinstance(node, ast.FunctionDef):
                    self.assertLessEqual(node.end_lineno - node.lineno + 1, 40, (name, node.name))

    def test_kinds_of_nodes(self):
        for name, _, tree in trees():
            for node in ast.walk(tree):
                self.assertNotIsInstance(node, NODES, (name, getattr(node, "lineno", 0)))
                if isinstance(node, ast.Constant):
                    self.assertNotIsInstance(node.value, float, name)

    def test_module_level(self):
        allowed = (ast.Expr, ast.ImportFrom, ast.FunctionDef, ast.ClassDef, ast.Assign)
        for name, _, tree in trees():
            for node in tree.body:
                self.assertIsInstance(node, allowed, name)
                if isinstance(node, ast.ImportFrom):
                    self.assertRegex(node.module, r"^joinedguests\.[a-z]+$", name)
                    source = ast.parse((FOLDER / (node.module.split(".")[1] + ".py")).read_text())
                    there = {getattr(part, "name", None) for part in source.body}
                    there |= {part.targets[0].id for part in source.body if isinstance(part, ast.Assign)}
                    for alias in node.names:
                        self.assertIsNone(alias.asname, name)
                        self.assertIn(alias.name, there, name)

    def test_functions(self):
        for name, _, tree in trees():
            for node in ast.walk(tree):
                if not isinstance(node, ast.FunctionDef):
                    continue
                for decorator in node.decorator_list:
                    words = ("property", "staticmethod", node.name + ".setter")
                    self.assertIn(ast.unparse(decorator), words, name)
                self.assertIsNone(node.returns, name)
                if node.name.startswith("__"):
                    self.assertIn(node.name, DUNDERS, name)

    def test_calls(self):
        own = {node.name for _, _, tree in trees() for node in ast.walk(tree)
               if isinstance(node, (ast.FunctionDef, ast.ClassDef))}
        for name, _, tree in trees():
            for node in ast.walk(tree):
                if isinstance(node, ast.Call) and isinstance(node.func, ast.Name):
                    # `call` is the function that is passed to tried.
                    self.assertIn(node.func.id, own | BUILTINS | {"call"}, (name, node.lineno))
                if isinstance(node, ast.Call) and isinstance(node.func, ast.Attribute):
                    self.assertIn(node.func.attr, own | METHODS, (name, node.lineno))

    def test_no_name_is_taken_twice(self):
        builtins = set(dir(__import__("builtins")))
        for name, _, tree in trees():
            top = [part.name for part in tree.body if isinstance(part, (ast.FunctionDef, ast.ClassDef))]
            top += [alias.name for part in tree.body if isinstance(part, ast.ImportFrom) for alias in part.names]
            self.assertEqual(len(top), len(set(top)), name)
            for node in ast.walk(tree):
                stored = isinstance(node, ast.Name) and isinstance(node.ctx, ast.Store)
                if stored or isinstance(node, ast.arg):
                    word = node.id if stored else node.arg
                    self.assertNotIn(word, set(top) | builtins, (name, node.lineno))

    def test_generators_are_iterated_at_once(self):
        generators = {}
        for name, _, tree in trees():
            for node in ast.walk(tree):
                if isinstance(node, ast.FunctionDef) and any(
                        isinstance(part, (ast.Yield, ast.YieldFrom)) for part in ast.walk(node)):
                    generators[node.name] = name
        for name, _, tree in trees():
            good = set()
            for node in ast.walk(tree):
                if isinstance(node, (ast.For, ast.comprehension)):
                    good.add(id(node.iter))
                if isinstance(node, ast.YieldFrom):
                    good.add(id(node.value))
                if isinstance(node, ast.Call) and isinstance(node.func, ast.Name):
                    if node.func.id in ("list", "tuple", "enumerate"):
                        good.update(id(part) for part in node.args)
            for node in ast.walk(tree):
                if isinstance(node, ast.Call):
                    called = getattr(node.func, "id", getattr(node.func, "attr", None))
                    if called in generators:
                        self.assertIn(id(node), good, (name, node.lineno))

    def test_ranges_and_zips_are_not_passed_on(self):
        takers = {"list", "tuple", "dict", "sorted", "sum", "any", "all", "enumerate", "zip", "min", "max"}
        for name, _, tree in trees():
            for node in ast.walk(tree):
                if isinstance(node, ast.Call) and getattr(node.func, "id", None) not in takers:
                    for part in node.args:
                        if isinstance(part, ast.Call):
                            called = getattr(part.func, "id", getattr(part.func, "attr", None))
                            told = (name, node.lineno, called)
                            self.assertNotIn(called, ("range", "zip", "enumerate", "reversed", "items", "keys", "values"), told)

    def test_sets_are_sorted_at_once(self):
        for name, _, tree in trees():
            good = set()
            for node in ast.walk(tree):
                if isinstance(node, ast.Call) and getattr(node.func, "id", None) in ("sorted", "len"):
                    good.update(id(part) for part in node.args)
            for node in ast.walk(tree):
                is_set = isinstance(node, (ast.Set, ast.SetComp))
                if is_set or isinstance(node, ast.Call) and getattr(node.func, "id", None) == "set":
                    self.assertIn(id(node), good, (name, node.lineno))

    def test_any_and_all_take_lists(self):
        for name, _, tree in trees():
            for node in ast.walk(tree):
                if isinstance(node, ast.Call) and getattr(node.func, "id", None) in ("any", "all", "sum"):
                    self.assertEqual(len(node.args), 1, (name, node.lineno))
                    self.assertIsInstance(node.args[0], (ast.ListComp, ast.Name), (name, node.lineno))

    def test_with_stands_over_trials_of_own_classes(self):
        for name, _, tree in trees():
            for node in ast.walk(tree):
                if isinstance(node, ast.With):
                    told = [ast.unparse(item) for item in node.items]
                    self.assertEqual(told, ["hall.trial()" if name == "hall.py" else "self.trial()"], name)
                if isinstance(node, ast.FunctionDef) and node.name == "__exit__":
                    self.assertEqual([part.arg for part in node.args.args], ["self", "kind", "value", "trace"])
                    for row in node.body:
                        self.assertRegex(ast.unparse(row), r"^self\.[a-z_]+ = self\.[a-z_]+\.[a-z_]+$", name)
                        self.assertNotIn(row.targets[0].attr, properties(), name)

    def test_a_property_without_a_setter_is_assigned_nowhere(self):
        told = properties()
        self.assertEqual(
            told, {
                "can_join": [False], "dropped": [False], "log": [False, False], "rows": [True], "sketch": [False],
                "unknown": [False], "web": [False]})
        stored = set()
        for name, _, tree in trees():
            for node in ast.walk(tree):
                if isinstance(node, ast.Attribute) and isinstance(node.ctx, (ast.Store, ast.Del)):
                    stored.add(node.attr)
                    self.assertTrue(all(told.get(node.attr, [])), (name, node.lineno, node.attr))
                if isinstance(node, ast.Call) and isinstance(node.func, ast.Name):
                    self.assertNotEqual(node.func.id, "setattr", (name, node.lineno))
        # What has a setter is needed: errors keep what they are passed under its name.
        self.assertTrue({attr for attr in told if all(told[attr])} <= stored)

    def test_a_try_catches_own_errors_by_name(self):
        own = {node.name for name, _, tree in trees() if name == "errors.py" for node in tree.body
               if isinstance(node, ast.ClassDef)}
        for name, _, tree in trees():
            for node in ast.walk(tree):
                if isinstance(node, ast.Try):
                    self.assertEqual(node.finalbody, [], (name, node.lineno))
                    for handler in node.handlers:
                        self.assertIn(ast.unparse(handler.type), own, (name, node.lineno))

    def test_no_method_is_read_off_a_class(self):
        classes = {node.name for _, _, tree in trees() for node in tree.body if isinstance(node, ast.ClassDef)}
        for name, _, tree in trees():
            for node in ast.walk(tree):
                if isinstance(node, ast.Attribute) and isinstance(node.value, ast.Name) and node.value.id in classes:
                    self.assertEqual((node.value.id, node.attr), ("Book", "letting"), (name, node.lineno))

    def test_f_strings_are_plain(self):
        for name, _, tree in trees():
            for node in ast.walk(tree):
                if isinstance(node, ast.JoinedStr):
                    self.assertEqual(node.lineno, node.end_lineno, name)
                if isinstance(node, ast.FormattedValue):
                    self.assertIsInstance(node.value, (ast.Name, ast.Attribute), (name, node.lineno))
                    self.assertIsNone(node.format_spec, name)

    def test_barred_words(self):
        for name, text, tree in trees():
            docs = [ast.get_docstring(node, clean=False) for node in ast.walk(tree)
                    if isinstance(node, (ast.Module, ast.ClassDef, ast.FunctionDef))]
            for doc in docs:
                text = text.replace(doc or "\n\n\n\n", "")
            text = re.sub(r"#.*", "", text)
            self.assertIsNone(BARRED_WORDS.search(text), name)
            for node in ast.walk(tree):
                if isinstance(node, ast.Constant) and isinstance(node.value, str):
                    self.assertNotIn("%", node.value, name)

    def test_no_imports_in_a_circle(self):
        needs = {
            name[:-3]: [part.module.split(".")[1] for part in tree.body if isinstance(part, ast.ImportFrom)]
            for name, _, tree in trees()}
        done = set()
        while len(done) < len(needs):
            free = {name for name in needs if name not in done and done.issuperset(needs[name])}
            self.assertTrue(free)
            done |= free


if __name__ == "__main__":
    unittest.main()

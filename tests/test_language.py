"""Every file of the package keeps to the rules of LANGUAGE.md that a look at the code can tell."""

import ast
import unittest
from pathlib import Path

PACKAGE = Path(__file__).resolve().parent.parent / "turnbehind"
FILES = sorted(PACKAGE.rglob("*.py"))

# L8
BUILTINS = {
    "len", "range", "enumerate", "zip", "min", "max", "sum", "abs", "sorted", "reversed", "int", "str", "bool", "list",
    "tuple", "dict", "set", "isinstance", "ord", "repr", "any", "all", "divmod", "iter", "ValueError", "TypeError",
    "property", "classmethod", "staticmethod",
}
# L25
METHODS = {
    "append", "clear", "copy", "count", "endswith", "extend", "find", "get", "index", "insert", "isalnum", "isalpha",
    "isdigit", "islower", "isspace", "isupper", "items", "join", "keys", "ljust", "lower", "lstrip", "partition", "pop",
    "remove", "replace", "reverse", "rfind", "rjust", "rpartition", "rsplit", "rstrip", "setdefault", "split",
    "splitlines", "startswith", "strip", "update", "upper", "values", "zfill", "bit_length", "add", "discard",
}
# L5
DOUBLE = {
    "__init__", "__contains__", "__iter__", "__bool__", "__add__", "__sub__", "__len__", "__eq__", "__repr__",
    "__str__",
}
# L6, L7: what does not occur at all
BARRED = (
    ast.AsyncFunctionDef, ast.AsyncFor, ast.AsyncWith, ast.Await, ast.Global, ast.Nonlocal, ast.Import, ast.Div,
    ast.MatMult, ast.Yield, ast.YieldFrom, ast.With, ast.NamedExpr, ast.AnnAssign, ast.Match, ast.Assert, ast.Lambda,
)
# L17
WORDS = {
    "mro", "elements", "open", "input", "law", "version_info", "with_traceback", "add_note", "register", "attrgetter",
    "breakpoint", "builtins", "compile", "copyright", "credits", "delattr", "dir", "eval", "exec", "exit", "gc",
    "getattr", "globals", "hasattr", "help", "id", "importlib", "license", "locals", "methodcaller", "os", "quit",
    "setattr", "super", "type", "vars", "sys", "hash", "next", "map", "filter", "print", "object", "format",
}
# L2
LIBRARY = {"math": {"comb", "gcd", "lcm", "isqrt", "perm", "factorial"}}
SEQUENCES = (ast.List, ast.Tuple, ast.Dict)


def nodes(file, kind):
    """All nodes of this kind, or of one of these kinds, in the file."""
    return [node for node in ast.walk(ast.parse(file.read_text())) if isinstance(node, kind)]


def bound_in(function):
    """All names that are bound in a function: parameters, targets, variables of comprehensions."""
    names = [node.arg for node in ast.walk(function) if isinstance(node, ast.arg)]
    names += [node.name for node in ast.walk(function) if isinstance(node, ast.ExceptHandler) and node.name]
    stored = [node for node in ast.walk(function) if isinstance(node, ast.Name)]
    return names + [node.id for node in stored if isinstance(node.ctx, ast.Store)]


def top_names(tree):
    """All names that a file binds at module level, repeated ones included."""
    found = []
    for node in tree.body:
        if isinstance(node, ast.ImportFrom):
            found.extend(alias.name for alias in node.names)
        elif isinstance(node, (ast.FunctionDef, ast.ClassDef)):
            found.append(node.name)
        elif isinstance(node, ast.Assign):
            found.extend(target.id for target in node.targets)
    return found


class Language(unittest.TestCase):
    def each(self):
        """Each file with its tree, in a sub-test of its own."""
        self.assertTrue(FILES)
        for file in FILES:
            with self.subTest(file=file.name):
                yield file, ast.parse(file.read_text())

    def test_files_and_signs(self):
        for path in PACKAGE.rglob("*"):
            if path.name != "__pycache__" and path.parent.name != "__pycache__":
                self.assertEqual((path.suffix, path.name.lower()), (".py", path.name))
        for file, _ in self.each():
            text = file.read_text()
            self.assertTrue(all(sign == "\n" or " " <= sign <= "~" for sign in text))
            self.assertLessEqual(len(text.splitlines()), 399)
            self.assertLessEqual(max(map(len, text.splitlines()), default=0), 120)

    def test_sizes_of_functions(self):
        for file, _ in self.each():
            for node in nodes(file, ast.FunctionDef):
                self.assertLessEqual(node.end_lineno - node.lineno + 1, 40, node.name)

    def test_imports(self):
        for _, tree in self.each():
            for node in [part for part in ast.walk(tree) if isinstance(part, ast.ImportFrom)]:
                self.assertEqual(node.level, 0)
                if node.module in LIBRARY:
                    self.assertLessEqual({alias.name for alias in node.names}, LIBRARY[node.module])
                    continue
                home = PACKAGE.parent / (node.module.replace(".", "/") + ".py")
                self.assertTrue(node.module.startswith("turnbehind."))
                own = [part for part in ast.parse(home.read_text()).body if not isinstance(part, ast.ImportFrom)]
                defined = top_names(ast.Module(own, []))
                for alias in node.names:
                    self.assertIsNone(alias.asname)
                    self.assertIn(alias.name, defined)
            kinds = [isinstance(node, ast.ImportFrom) for node in tree.body[1:]]
            self.assertEqual(kinds, sorted(kinds, reverse=True))

    def test_no_two_files_import_from_each_other(self):
        needs = {}
        for file, _ in self.each():
            modules = [node.module.split(".") for node in nodes(file, ast.ImportFrom)]
            needs[file.stem] = [module[1] for module in modules if module[0] == "turnbehind"]
        while needs:
            free = [name for name in needs if not any(need in needs for need in needs[name])]
            self.assertTrue(free, needs)
            needs = {name: needs[name] for name in needs if name not in free}

    def test_what_the_library_lends_is_only_called(self):
        for file, tree in self.each():
            rows = [node for node in nodes(file, ast.ImportFrom) if node.module in LIBRARY]
            lent = [alias.name for node in rows for alias in node.names]
            read = [node for node in nodes(file, ast.Name) if node.id in lent]
            called = [node for node in nodes(file, ast.Call) if getattr(node.func, "id", "") in lent]
            self.assertEqual(len(read), len(called))
            for node in called:
                self.assertEqual(node.keywords, [])

    def test_every_import_is_used(self):
        for file, _ in self.each():
            read = [node.id for node in nodes(file, ast.Name)]
            for node in nodes(file, ast.ImportFrom):
                for alias in node.names:
                    self.assertIn(alias.name, read)

    def test_module_level(self):
        for _, tree in self.each():
            for at, node in enumerate(tree.body):
                if at == 0:
                    self.assertIsInstance(node.value.value, str)
                    continue
                self.assertIsInstance(node, (ast.ImportFrom, ast.FunctionDef, ast.ClassDef, ast.Assign))
                if isinstance(node, ast.Assign):
                    ast.literal_eval(node.value)
            names = top_names(tree)
            self.assertEqual(len(names), len(set(names)))

    def test_barred_statements_and_expressions(self):
        for file, _ in self.each():
            self.assertEqual(nodes(file, BARRED), [])
            for node in nodes(file, ast.Constant):
                self.assertNotIsInstance(node.value, (float, complex))
                if isinstance(node.value, str):
                    self.assertNotIn(chr(37), node.value)
            for node in nodes(file, ast.Compare):
                for sign, right in zip(node.ops, node.comparators):
                    if isinstance(sign, (ast.Is, ast.IsNot)):
                        self.assertIn(getattr(right, "value", 0), (None, True, False))
            for node in nodes(file, ast.FunctionDef):
                inner = [part for part in ast.walk(node) if isinstance(part, ast.FunctionDef) and part is not node]
                self.assertEqual(inner, [])

    def test_names(self):
        for file, tree in self.each():
            top = top_names(tree)
            for name in top:
                self.assertNotIn(name, WORDS | BUILTINS)
            for function in nodes(file, ast.FunctionDef):
                for name in bound_in(function):
                    self.assertNotIn(name, [*top, *WORDS, *BUILTINS])
                    self.assertFalse(name.startswith("__"))
                if function.name.startswith("__"):
                    self.assertIn(function.name, DOUBLE)
                read = [node.id for node in ast.walk(function) if isinstance(node, ast.Name)]
                known = [*top, *BUILTINS, *bound_in(function)]
                self.assertEqual([name for name in read if name not in known], [])
                loads = [node.id for node in ast.walk(function) if isinstance(node, ast.Name)
                         and isinstance(node.ctx, ast.Load)]
                self.assertNotIn("_", loads)

    def test_methods_and_attributes(self):
        assigned = set()
        methods = set()
        for file in FILES:
            for node in nodes(file, ast.Attribute):
                if isinstance(node.ctx, ast.Store):
                    self.assertEqual(node.value.id, "self")
                    assigned.add(node.attr)
            for node in nodes(file, ast.ClassDef):
                methods.update(part.name for part in node.body if isinstance(part, ast.FunctionDef))
        for file, _ in self.each():
            for node in nodes(file, ast.Attribute):
                self.assertIn(node.attr, METHODS | assigned | methods)

    def test_decorators(self):
        for file, _ in self.each():
            for node in nodes(file, (ast.FunctionDef, ast.ClassDef)):
                for decorator in node.decorator_list:
                    self.assertIn(decorator.id, ("property", "classmethod", "staticmethod"))

    def test_sets_stay_where_they_are(self):
        for file, _ in self.each():
            self.assertEqual(nodes(file, (ast.Set, ast.SetComp)), [])
            kept = [node.value for node in nodes(file, ast.Assign)]
            around = [node.args[0] for node in nodes(file, ast.Call) if getattr(node.func, "id", "") == "sorted"]
            for node in nodes(file, ast.Call):
                if getattr(node.func, "id", "") == "set":
                    places = [ast.dump(other) for other in [*kept, *around]]
                    self.assertIn(ast.dump(node), places)

    def test_raise_makes_its_error_on_the_spot(self):
        errors = top_names(ast.parse((PACKAGE / "errors.py").read_text()))
        for file, _ in self.each():
            for node in nodes(file, ast.Raise):
                self.assertIn(node.exc.func.id, errors)
                self.assertIsNone(node.cause)

    def test_handlers_catch_own_errors(self):
        errors = top_names(ast.parse((PACKAGE / "errors.py").read_text()))
        for file, _ in self.each():
            for node in nodes(file, ast.Try):
                self.assertEqual((node.finalbody, node.orelse), ([], []))
                for handler in node.handlers:
                    self.assertIn(handler.type.id, errors)

    def test_loops_do_not_change_what_they_go_over(self):
        changing = {"append", "clear", "extend", "insert", "pop", "remove", "reverse", "setdefault", "update", "add"}
        for file, _ in self.each():
            for loop in nodes(file, ast.For):
                over = {ast.dump(part) for part in ast.walk(loop.iter) if isinstance(part, (ast.Name, ast.Attribute))}
                for node in [part for line in loop.body for part in ast.walk(line)]:
                    if isinstance(node, ast.Call) and getattr(node.func, "attr", "") in changing:
                        self.assertNotIn(ast.dump(node.func.value), over)
                    if isinstance(node, ast.Subscript) and isinstance(node.ctx, (ast.Store, ast.Del)):
                        changed = ast.dump(node.value).replace("Store()", "Load()").replace("Del()", "Load()")
                        self.assertNotIn(changed, over)

    def test_tables_at_module_level_hold_no_lists(self):
        for _, tree in self.each():
            for node in tree.body:
                if isinstance(node, ast.Assign) and isinstance(node.value, SEQUENCES):
                    inner = [part for part in ast.walk(node.value) if part is not node.value]
                    self.assertEqual([part for part in inner if isinstance(part, (ast.List, ast.Dict))], [])

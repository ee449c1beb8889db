"""The rules of the Python subset that can be seen file by file: sizes, names, imports, words, calls."""

import ast
import builtins
import pathlib
import re
import unittest

PACKAGE = pathlib.Path(__file__).resolve().parent.parent / "ridesonce"
FILES = sorted(PACKAGE.rglob("*.py"))

BUILTINS = set("""len range enumerate zip min max sum abs sorted reversed int str bool bytes list tuple dict set frozenset
isinstance ord repr any all divmod iter next super property staticmethod classmethod Exception ValueError TypeError
KeyError IndexError LookupError ZeroDivisionError ArithmeticError OverflowError RuntimeError NotImplementedError
AttributeError StopIteration NotImplemented""".split())
BUILTIN_METHODS = set("""append clear copy count endswith extend find get index insert isalnum isalpha isdigit islower
isspace isupper items join keys ljust lower lstrip partition pop remove replace reverse rfind rjust rpartition rsplit
rstrip setdefault split splitlines startswith strip update upper values zfill bit_length add discard""".split())
ALL_METHODS = {name for kind in (str, list, dict, set, bytes, int, tuple) for name in dir(kind)}
DOUBLE = set("""__init__ __eq__ __repr__ __str__ __len__ __enter__ __exit__ __call__ __iter__ __getitem__
__contains__ __setitem__ __add__ __and__ __or__""".split())
OPERATORS = set("__getitem__ __contains__ __len__ __add__ __and__ __or__".split())
CHANGES = set("""append clear extend insert pop remove reverse setdefault update sort add discard""".split())
LIBRARY = {"math": {"gcd"}}
BARRED = re.compile(r"\b(type|typing|typing_extensions|enum|Enum|Generic|Protocol|ABC|namedtuple|NamedTuple|TypedDict|"
                    r"abstractmethod)\b|dataclass|overload|contextmanager|_wall|_WallAttr")
NOT_USED = set("""register mro elements open input law version_info with_traceback add_note attrgetter breakpoint builtins
compile copyright credits delattr dir eval exec exit gc getattr globals hasattr help id importlib license locals
methodcaller os quit setattr type vars sys""".split())
STATEMENTS = (ast.FunctionDef, ast.ClassDef, ast.Assign, ast.AugAssign, ast.If, ast.While, ast.For, ast.Return,
              ast.Break, ast.Continue, ast.Pass, ast.Raise, ast.Try, ast.Expr, ast.ImportFrom, ast.Delete)


def nodes(tree, *kinds):
    return [node for node in ast.walk(tree) if isinstance(node, kinds)]


def bound_names(tree):
    """Every name that a file gives to a variable, a parameter, a function or a class."""
    found = [node.name for node in nodes(tree, ast.FunctionDef, ast.ClassDef)]
    found += [node.arg for node in nodes(tree, ast.arg)]
    return found + [node.id for node in nodes(tree, ast.Name) if isinstance(node.ctx, ast.Store)]


def own_imports(tree):
    """The imports from the package itself."""
    return [node for node in nodes(tree, ast.ImportFrom) if node.module not in LIBRARY]


def imports_of(tree):
    return [alias.name for node in nodes(tree, ast.ImportFrom) for alias in node.names]


class LanguageTest(unittest.TestCase):
    @classmethod
    def setUpClass(cls):
        cls.texts = {path.name: path.read_text(encoding="utf-8") for path in FILES}
        cls.trees = {name: ast.parse(text) for name, text in cls.texts.items()}

    def each(self):
        for name, tree in self.trees.items():
            with self.subTest(name):
                yield name, self.texts[name], tree

    def test_files(self):
        self.assertTrue((PACKAGE / "__init__.py").exists())
        self.assertLessEqual(len(FILES), 100)
        for path in PACKAGE.iterdir():
            if path.name != "__pycache__":
                self.assertRegex(path.name, r"^([a-z][a-z0-9_]*|__init__)\.py$")
                self.assertNotIn(path.stem, dir(builtins))

    def test_sizes_and_characters(self):
        for _, text, tree in self.each():
            self.assertLessEqual(len(text.splitlines()), 399)
            self.assertLessEqual(max(len(line) for line in text.splitlines()), 120)
            self.assertRegex(text, r"\A[\n -~]*\Z")
            for node in nodes(tree, ast.FunctionDef):
                self.assertLessEqual(node.end_lineno - node.lineno + 1, 40, node.name)

    def test_statements(self):
        for _, _, tree in self.each():
            for node in nodes(tree, ast.stmt):
                self.assertIsInstance(node, STATEMENTS)
            for node in tree.body:
                self.assertIsInstance(node, (ast.FunctionDef, ast.ClassDef, ast.Assign, ast.ImportFrom, ast.Expr))
            for node in [one for one in tree.body if isinstance(one, ast.Assign)]:
                self.check_plain(tree, node.value)

    def check_plain(self, tree, value):
        """A plain value, or a table of functions that are defined above it."""
        above = [one.name for one in tree.body if isinstance(one, ast.FunctionDef) and one.lineno < value.lineno]
        if isinstance(value, ast.Dict) and all(isinstance(one, ast.Name) for one in value.values):
            self.assertLessEqual({one.id for one in value.values}, set(above))
            for key in value.keys:
                ast.literal_eval(key)
        else:
            ast.literal_eval(value)

    def test_imports(self):
        for _, _, tree in self.each():
            for node in own_imports(tree):
                self.assertTrue(node.module.startswith("ridesonce."))
                source = self.trees[node.module.split(".")[1] + ".py"]
                own = bound_names(ast.Module([one for one in source.body if not isinstance(one, ast.ImportFrom)], []))
                for alias in node.names:
                    self.assertIsNone(alias.asname)
                    self.assertIn(alias.name, own)
            self.assertEqual(len(imports_of(tree)), len(set(imports_of(tree))))

    def test_the_library_is_only_called(self):
        for _, _, tree in self.each():
            for node in nodes(tree, ast.ImportFrom):
                if node.module in LIBRARY:
                    names = {alias.name for alias in node.names}
                    self.assertLessEqual(names, LIBRARY[node.module])
                    called = [one.func for one in nodes(tree, ast.Call) if not one.keywords]
                    self.assertFalse([one for one in nodes(tree, ast.Name) if one.id in names and one not in called])

    def test_each_import_is_used(self):
        for _, _, tree in self.each():
            used = {node.id for node in nodes(tree, ast.Name)}
            self.assertEqual(set(imports_of(tree)) - used, set())

    def test_no_two_files_import_each_other(self):
        needs = {name: {node.module.split(".")[1] + ".py" for node in own_imports(tree)}
                 for name, tree in self.trees.items()}
        while needs:
            free = [name for name in needs if not needs[name] & set(needs)]
            self.assertTrue(free, needs)
            for name in free:
                del needs[name]

    def test_names(self):
        for _, _, tree in self.each():
            variables = [node.arg for node in nodes(tree, ast.arg)]
            variables += [node.id for node in nodes(tree, ast.Name) if isinstance(node.ctx, ast.Store)]
            classes = [node.name for node in nodes(tree, ast.ClassDef)]
            self.assertFalse(set(variables) & set(imports_of(tree) + classes))
            self.assertFalse(set(bound_names(tree)) & set(dir(builtins)))
            self.assertFalse(set(bound_names(tree)) & NOT_USED)
            for name in bound_names(tree):
                self.assertTrue(name in DOUBLE or re.fullmatch(r"_|_?[A-Za-z][A-Za-z0-9_]*", name), name)
            for node in nodes(tree, ast.Name):
                self.assertFalse(node.id == "_" and isinstance(node.ctx, ast.Load))

    def test_names_at_module_level_are_bound_once(self):
        for _, _, tree in self.each():
            found = imports_of(tree) + [node.name for node in tree.body if hasattr(node, "name")]
            found += [target.id for node in tree.body if isinstance(node, ast.Assign) for target in node.targets]
            self.assertEqual(len(found), len(set(found)))

    def test_builtins(self):
        for _, _, tree in self.each():
            for node in nodes(tree, ast.Name):
                if hasattr(builtins, node.id):
                    self.assertIn(node.id, BUILTINS)

    def test_methods_of_builtin_values(self):
        own = {node.name for tree in self.trees.values() for node in nodes(tree, ast.FunctionDef)}
        for _, _, tree in self.each():
            for node in nodes(tree, ast.Attribute):
                self.assertTrue(node.attr not in ALL_METHODS or node.attr in BUILTIN_METHODS | own, node.attr)
                self.assertNotIn(node.attr, NOT_USED)

    def test_barred_words_and_signs(self):
        for _, text, tree in self.each():
            self.assertIsNone(BARRED.search(text))
            strings = [node.value for node in nodes(tree, ast.Constant) if isinstance(node.value, str)]
            self.assertFalse([text for text in strings if chr(37) in text])
            self.assertFalse([node for node in nodes(tree, ast.Constant) if isinstance(node.value, (float, complex))])
            self.assertFalse(nodes(tree, ast.Div, ast.GeneratorExp, ast.Lambda, ast.AsyncFor, ast.Await, ast.MatMult))

    def test_sets_are_not_kept(self):
        for _, _, tree in self.each():
            self.assertFalse(nodes(tree, ast.Set, ast.SetComp))
            for node in nodes(tree, ast.Call):
                inner = [one for one in node.args if isinstance(one, ast.Call) and isinstance(one.func, ast.Name)]
                if any(one.func.id == "set" for one in inner):
                    self.assertIn(node.func.id, ("len", "sorted"))

    def test_generators_are_called_on_the_spot_alone(self):
        generators = {node.name for tree in self.trees.values() for node in nodes(tree, ast.FunctionDef)
                      if nodes(node, ast.Yield, ast.YieldFrom)}
        self.assertEqual(generators, {"bad_rings", "standings"})
        for _, _, tree in self.each():
            loops = nodes(tree, ast.For, ast.comprehension)
            on_the_spot = [loop.iter.func for loop in loops if isinstance(loop.iter, ast.Call)]
            others = [node for node in nodes(tree, ast.Name) if node.id in generators and node not in on_the_spot]
            self.assertEqual(others, [])

    def test_operators(self):
        owners = [owner for tree in self.trees.values() for owner in nodes(tree, ast.ClassDef)]
        for owner in owners:
            methods = {node.name: node for node in owner.body if isinstance(node, ast.FunctionDef)}
            if "__getitem__" in methods:
                self.assertIn("__iter__", methods)
            for name in ("__len__", "__iter__"):
                if name in methods:
                    self.assertIsInstance(methods[name].body[-1], ast.Return)
                    self.assertEqual(len(methods[name].body), 1)
            for name in OPERATORS:
                changed = [node for node in nodes(methods.get(name, ast.Pass()), ast.Attribute, ast.Subscript)
                           if isinstance(node.ctx, ast.Store)]
                self.assertFalse(changed)
            self.assertNotIn("keys", methods)
        for _, text, _ in self.each():
            self.assertIsNone(re.search(r"\(type\)|Meta|metaclass=", text))

    def functions_by_name(self):
        """Every function and method of the package by its name; a class stands for the method that makes its objects."""
        found = {}
        for tree in self.trees.values():
            for node in nodes(tree, ast.FunctionDef):
                found.setdefault(node.name, []).append(node)
            for owner in nodes(tree, ast.ClassDef):
                found.setdefault(owner.name, []).extend(one for one in owner.body if getattr(one, "name", "") == "__init__")
        return found

    def reached_by_operators_and_properties(self):
        named = self.functions_by_name()
        fresh = [node for rows in named.values() for node in rows
                 if node.name in OPERATORS or any(getattr(one, "id", "") == "property" for one in node.decorator_list)]
        reached = []
        while fresh:
            node = fresh.pop()
            if node not in reached:
                reached.append(node)
                called = [one.func for one in nodes(node, ast.Call)]
                names = [getattr(one, "id", None) or getattr(one, "attr", None) for one in called]
                fresh += [one for name in names for one in named.get(name, [])]
        return reached

    def is_own(self, function, receiver):
        """Whether a list or dict was made by the function itself."""
        if not isinstance(receiver, ast.Name):
            return False
        values = [node.value for node in nodes(function, ast.Assign)
                  if receiver.id in [one.id for target in node.targets for one in nodes(target, ast.Name)]]
        made = [isinstance(one, (ast.List, ast.Dict, ast.ListComp, ast.DictComp))
                or (isinstance(one, ast.Call) and getattr(one.func, "id", "") in ("list", "dict", "sorted")) for one in values]
        return len(made) > 0 and all(made)

    def test_operators_and_properties_change_nothing(self):
        reached = self.reached_by_operators_and_properties()
        self.assertLessEqual({"joined_form", "checked_rides", "split_lines", "riders", "__or__"}, {node.name for node in reached})
        for function in reached:
            for node in nodes(function, ast.Call):
                if getattr(node.func, "attr", "") in CHANGES:
                    self.assertTrue(self.is_own(function, node.func.value), ast.unparse(node))
            for node in nodes(function, ast.Subscript):
                if not isinstance(node.ctx, ast.Load):
                    self.assertTrue(self.is_own(function, node.value), ast.unparse(node))
            for node in nodes(function, ast.Attribute):
                if not isinstance(node.ctx, ast.Load):
                    self.assertEqual((function.name, node.value.id), ("__init__", "self"), ast.unparse(node))
            for node in nodes(function, ast.AugAssign):
                self.assertIsInstance(node.value, ast.Constant)
            self.assertFalse(nodes(function, ast.Delete, ast.Yield))

    def test_decorators_and_bases(self):
        for _, _, tree in self.each():
            for node in nodes(tree, ast.FunctionDef):
                for decorator in node.decorator_list:
                    if isinstance(decorator, ast.Attribute):
                        self.assertEqual((decorator.value.id, decorator.attr), (node.name, "setter"))
                    else:
                        self.assertIn(decorator.id, ("property", "staticmethod", "classmethod"))
                if node.name.startswith("__"):
                    self.assertIn(node.name, DOUBLE)
            self.assertFalse([node for node in nodes(tree, ast.ClassDef) if node.decorator_list])

    def test_methods_and_attributes_have_different_names(self):
        for _, _, tree in self.each():
            for owner in nodes(tree, ast.ClassDef):
                methods = [node.name for node in owner.body if isinstance(node, ast.FunctionDef)
                           if not any(isinstance(one, ast.Attribute) for one in node.decorator_list)]
                stored = {node.attr for node in nodes(owner, ast.Attribute) if isinstance(node.ctx, ast.Store)}
                self.assertEqual(len(methods), len(set(methods)))
                self.assertFalse(stored & set(methods))

    def test_caught_errors(self):
        own = {node.name for node in nodes(self.trees["errors.py"], ast.ClassDef)}
        for _, _, tree in self.each():
            for node in nodes(tree, ast.ExceptHandler):
                caught = node.type.elts if isinstance(node.type, ast.Tuple) else [node.type]
                self.assertLessEqual({one.id for one in caught}, own)

    def test_raised_errors(self):
        own = {node.name for node in nodes(self.trees["errors.py"], ast.ClassDef)}
        for _, _, tree in self.each():
            for node in nodes(tree, ast.Raise):
                self.assertIn(node.exc.func.id, own - {"RidesError"})

    def test_public_functions_have_docstrings(self):
        for _, _, tree in self.each():
            self.assertIsNotNone(ast.get_docstring(tree))
            for node in nodes(tree, ast.FunctionDef, ast.ClassDef):
                if not node.name.startswith("_"):
                    self.assertIsNotNone(ast.get_docstring(node), node.name)


if __name__ == "__main__":
    unittest.main()

"""The package keeps to the language rules, as far as its source plainly shows it."""

import ast
import builtins
import pathlib
import re
import unittest

PACKAGE = pathlib.Path(__file__).resolve().parent.parent / "readround"
BUILTINS = set("""len range enumerate zip min max sum abs sorted reversed int str bool bytes list tuple dict set
    frozenset isinstance ord repr any all divmod Exception ValueError TypeError KeyError IndexError LookupError
    ZeroDivisionError ArithmeticError OverflowError RuntimeError NotImplementedError AttributeError StopIteration
    NotImplemented""".split())
DOUBLE_UNDERSCORE = set("__init__ __eq__ __repr__ __str__ __len__ __enter__ __exit__ __call__ __iter__".split())
BARRED_WORDS = """type typing typing_extensions enum Enum IntEnum StrEnum Flag IntFlag Generic Protocol ABC ABCMeta
    namedtuple NamedTuple TypedDict TYPE_CHECKING abstractmethod""".split()
BARRED_NAMES = set("""register mro elements open input version_info with_traceback add_note attrgetter breakpoint
    compile copyright credits delattr dir eval exec exit gc getattr globals hasattr help id importlib license locals
    methodcaller os quit setattr vars sys format format_map""".split())
BARRED_NODES = (ast.Global, ast.AsyncFunctionDef, ast.AsyncFor, ast.AsyncWith, ast.Await, ast.Import, ast.Div)
BUILTIN_KINDS = (str, int, bytes, list, dict, set, tuple)
MAY_BE_METHODS = set("""add discard append clear copy count endswith extend find get index insert isalnum isalpha
    isdigit islower isspace isupper items join keys ljust lower lstrip partition pop remove replace reverse rfind rjust
    rpartition rsplit rstrip setdefault split splitlines startswith strip update upper values zfill bit_length""".split())
MAY_BE_ATTRIBUTES = set("count index title find get join lower upper split strip copy add".split())
METHODS_OF_BUILTINS = MAY_BE_METHODS | set("""title capitalize swapcase casefold center expandtabs removeprefix
    removesuffix rindex isascii isdecimal isnumeric istitle isidentifier isprintable sort""".split())
ITERATED_AT_ONCE = ("zip", "enumerate", "reversed", "range")
ITERATING = set("list tuple dict sorted sum any all enumerate zip bytes min max".split())
TAKE_A_LIST = ("any", "all", "min", "max", "sum", "sorted")


def sources():
    return sorted(PACKAGE.rglob("*.py"))


def tree_of(path):
    return ast.parse(path.read_text(encoding="utf-8"))


def nodes(*kinds):
    """Each node of one of the kinds in the package, with the place where it stands."""
    for path in sources():
        for node in ast.walk(tree_of(path)):
            if isinstance(node, kinds):
                yield f"{path.name}:{getattr(node, 'lineno', 0)}", node


def bound_names(node):
    """The names that a node binds."""
    if isinstance(node, ast.Name) and not isinstance(node.ctx, ast.Load):
        return [node.id]
    if isinstance(node, (ast.FunctionDef, ast.ClassDef)):
        return [node.name]
    if isinstance(node, ast.arg):
        return [node.arg]
    if isinstance(node, ast.alias):
        return [node.asname or node.name]
    return []


def methods_and_attributes():
    methods, attributes = set(), set()
    for place, node in nodes(ast.ClassDef):
        methods.update(part.name for part in node.body if isinstance(part, ast.FunctionDef))
    for place, node in nodes(ast.Attribute):
        if isinstance(node.ctx, ast.Store):
            attributes.add(node.attr)
    return methods, attributes


class Files(unittest.TestCase):
    def test_the_package_is_there(self):
        self.assertIn("__init__.py", [path.name for path in sources()])

    def test_the_folder_holds_nothing_but_plain_source(self):
        for path in PACKAGE.rglob("*"):
            if "__pycache__" not in path.parts:
                self.assertRegex(path.name, r"^([a-z0-9_]+\.py|[a-z0-9_]+)$")
                self.assertFalse(path.name.startswith("test"), path.name)

    def test_signs_and_sizes(self):
        for path in sources():
            text = path.read_text(encoding="utf-8")
            with self.subTest(path.name):
                self.assertRegex(text, r"\A[ -~\n]*\Z")
                self.assertLessEqual(len(text.splitlines()), 400)
                self.assertLessEqual(max(len(line) for line in text.splitlines()), 120)

    def test_functions_are_short(self):
        for place, node in nodes(ast.FunctionDef):
            self.assertLessEqual(node.end_lineno - node.lineno + 1, 40, place)

    def test_barred_words(self):
        for path in sources():
            found = set(re.findall(r"\w+", path.read_text(encoding="utf-8")))
            self.assertEqual(sorted(found.intersection(BARRED_WORDS)), [], path.name)


class Imports(unittest.TestCase):
    def test_only_from_the_very_file_of_the_package(self):
        for place, node in nodes(ast.ImportFrom):
            self.assertEqual(node.level, 0, place)
            self.assertRegex(node.module, r"^readround\.[a-z0-9_]+$", place)
            other = tree_of(PACKAGE / (node.module.split(".")[1] + ".py"))
            made = [name for part in other.body if not isinstance(part, ast.ImportFrom)
                    for inner in (part.targets if isinstance(part, ast.Assign) else [part])
                    for name in bound_names(inner)]
            for alias in node.names:
                self.assertIn(alias.name, made, place)

    def test_files_do_not_import_each_other_in_a_ring(self):
        left = {path.stem: {node.module.split(".")[1] for node in ast.walk(tree_of(path))
                            if isinstance(node, ast.ImportFrom)} for path in sources()}
        while left:
            free = [name for name, needs in left.items() if not needs.intersection(left)]
            self.assertNotEqual(free, [], f"a ring among {sorted(left)}")
            for name in free:
                del left[name]


class Code(unittest.TestCase):
    def test_module_level(self):
        for path in sources():
            body = tree_of(path).body
            self.assertIsNotNone(ast.get_docstring(tree_of(path)), path.name)
            for node in body[1:]:
                self.assertIsInstance(node, (ast.ImportFrom, ast.FunctionDef, ast.ClassDef, ast.Assign), path.name)
            names = [name for node in body[1:]
                     for part in (node.targets if isinstance(node, ast.Assign) else getattr(node, "names", [node]))
                     for name in bound_names(part)]
            self.assertEqual(sorted(names), sorted(set(names)), path.name)

    def test_barred_statements_and_signs(self):
        for place, node in nodes(*BARRED_NODES):
            self.fail(f"{place}: {type(node).__name__}")
        for place, node in nodes(ast.Constant):
            self.assertNotIsInstance(node.value, (float, complex), place)
            self.assertNotIn("%", str(node.value), place)

    def test_names(self):
        for place, node in nodes(ast.Name, ast.FunctionDef, ast.ClassDef, ast.arg, ast.alias, ast.Attribute):
            for name in bound_names(node) + ([node.attr] if isinstance(node, ast.Attribute) else []):
                self.assertNotIn(name, BARRED_NAMES, place)
                if name not in DOUBLE_UNDERSCORE:
                    self.assertRegex(name, r"^[A-Za-z][A-Za-z0-9_]*$", place)

    def test_builtins(self):
        known = set(dir(builtins))
        methods, attributes = methods_and_attributes()
        for place, node in nodes(ast.Name, ast.FunctionDef, ast.ClassDef, ast.arg, ast.alias):
            if isinstance(node, ast.Name) and isinstance(node.ctx, ast.Load):
                self.assertTrue(node.id not in known or node.id in BUILTINS, f"{place}: {node.id}")
            for name in bound_names(node):
                self.assertTrue(name not in known or name in methods, f"{place}: {name}")

    def test_lists_are_taken_whole(self):
        for place, node in nodes(ast.Call):
            if isinstance(node.func, ast.Name) and node.func.id in TAKE_A_LIST:
                for told in node.args:
                    self.assertNotIsInstance(told, ast.GeneratorExp, place)

    def test_no_name_is_a_method_here_and_an_attribute_there(self):
        methods, attributes = methods_and_attributes()
        self.assertEqual(methods & attributes, set())

    def test_methods_and_attributes_are_called_otherwise_than_those_of_builtin_values(self):
        methods, attributes = methods_and_attributes()
        builtin = {name for kind in BUILTIN_KINDS for name in dir(kind)}
        self.assertEqual((methods & builtin) - MAY_BE_METHODS - DOUBLE_UNDERSCORE, set())
        self.assertEqual((attributes & builtin) - MAY_BE_ATTRIBUTES, set())

    def test_no_local_name_is_that_of_a_class_or_an_import_of_its_file(self):
        for path in sources():
            body = tree_of(path).body
            taken = {name for node in body if isinstance(node, ast.ClassDef) for name in bound_names(node)}
            taken |= {name for node in body if isinstance(node, ast.ImportFrom)
                      for alias in node.names for name in bound_names(alias)}
            for function in [node for node in ast.walk(tree_of(path)) if isinstance(node, ast.FunctionDef)]:
                for node in ast.walk(function):
                    if isinstance(node, (ast.Name, ast.arg)):
                        self.assertEqual(taken.intersection(bound_names(node)), set(), f"{path.name}:{node.lineno}")

    def test_is_asks_for_none_true_and_false_only(self):
        for place, node in nodes(ast.Compare):
            for sign, right in zip(node.ops, node.comparators):
                if isinstance(sign, (ast.Is, ast.IsNot)):
                    self.assertTrue(isinstance(right, ast.Constant) and right.value in (None, True, False), place)


class Calls(unittest.TestCase):
    def test_errors_are_made_where_they_are_raised(self):
        for place, node in nodes(ast.Raise):
            if node.exc is not None:
                self.assertIsInstance(node.exc, ast.Call, place)
                self.assertIsInstance(node.exc.func, ast.Name, place)

    def test_own_errors_are_caught_by_name(self):
        own = {part.name for part in tree_of(PACKAGE / "errors.py").body if isinstance(part, ast.ClassDef)}
        for place, node in nodes(ast.ExceptHandler):
            self.assertIsInstance(node.type, ast.Name, place)
            self.assertIn(node.type.id, own, place)

    def test_methods_are_own_ones_or_those_of_the_list(self):
        methods, attributes = methods_and_attributes()
        for place, node in nodes(ast.Call):
            if isinstance(node.func, ast.Attribute):
                self.assertIn(node.func.attr, methods | METHODS_OF_BUILTINS, place)

    def test_attributes_that_are_read_are_assigned_by_some_class(self):
        methods, attributes = methods_and_attributes()
        for path in sources():
            tree = tree_of(path)
            called = {id(node.func) for node in ast.walk(tree) if isinstance(node, ast.Call)}
            for node in ast.walk(tree):
                if isinstance(node, ast.Attribute) and id(node) not in called:
                    self.assertIn(node.attr, attributes, f"{path.name}:{node.lineno}")

    def test_what_is_iterated_at_once_is_not_kept(self):
        for path in sources():
            tree = tree_of(path)
            fine = set()
            for node in ast.walk(tree):
                if isinstance(node, (ast.For, ast.comprehension)):
                    fine.add(id(node.iter))
                if isinstance(node, ast.Call) and isinstance(node.func, ast.Name) and node.func.id in ITERATING:
                    fine.update(id(told) for told in node.args)
            for node in ast.walk(tree):
                if isinstance(node, ast.Call) and isinstance(node.func, ast.Name) and node.func.id in ITERATED_AT_ONCE:
                    self.assertIn(id(node), fine, f"{path.name}:{node.lineno}")

    def test_stars_and_keywords_are_not_used(self):
        # but for the key of min, max and sorted
        for place, node in nodes(ast.Call):
            for told in node.args:
                self.assertNotIsInstance(told, ast.Starred, place)
            for told in node.keywords:
                self.assertEqual(told.arg, "key", place)
                self.assertIn(node.func.id, ("min", "max", "sorted"), place)

    def test_sets_stand_where_they_are_used(self):
        for path in sources():
            tree = tree_of(path)
            fine = set()
            for node in ast.walk(tree):
                if isinstance(node, ast.Call) and isinstance(node.func, ast.Name) and node.func.id in ("sorted", "len"):
                    fine.update(id(told) for told in node.args)
            for node in ast.walk(tree):
                is_set = isinstance(node, ast.Call) and isinstance(node.func, ast.Name) and node.func.id in ("set", "frozenset")
                if is_set or isinstance(node, (ast.Set, ast.SetComp)):
                    self.assertIn(id(node), fine, f"{path.name}:{node.lineno}")


if __name__ == "__main__":
    unittest.main()

"""Those rules of the language for the package that can be read off its files."""

import ast
import os
import re
import unittest

PACKAGE = os.path.join(os.path.dirname(os.path.dirname(os.path.abspath(__file__))), "darkthread")

BUILTINS = set("""len range enumerate zip min max sum abs sorted reversed int str bool bytes list tuple dict set
    frozenset isinstance ord repr any all divmod iter next Exception ValueError TypeError KeyError IndexError
    LookupError ZeroDivisionError ArithmeticError OverflowError RuntimeError NotImplementedError AttributeError
    StopIteration NotImplemented""".split())
ALL_BUILTINS = set(dir(__builtins__) if not isinstance(__builtins__, dict) else __builtins__)
METHODS = set("""__init__ __eq__ __repr__ __str__ __len__ __enter__ __exit__ __call__ __iter__""".split())
BARRED_WORDS = re.compile(r"\b(type|typing|typing_extensions|enum|Enum|IntEnum|StrEnum|Flag|IntFlag|Generic|Protocol"
                          r"|ABC|ABCMeta|namedtuple|NamedTuple|TypedDict|TYPE_CHECKING|abstractmethod)\b"
                          r"|dataclass|overload|contextmanager")
VALUE_METHODS = set("""append clear copy count endswith extend find get index insert isalnum isalpha isdigit islower
    isspace isupper items join keys ljust lower lstrip partition pop remove replace reverse rfind rjust rpartition
    rsplit rstrip setdefault split splitlines startswith strip update upper values zfill bit_length""".split())
TAKE_A_LIST = ("any", "all", "min", "max", "sum", "sorted")
ITERATED_AT_ONCE = ("zip", "enumerate", "reversed", "range")
BARRED_NODES = (ast.Global, ast.AsyncFunctionDef, ast.AsyncFor, ast.AsyncWith, ast.Await, ast.Div, ast.Import)


def sources():
    for name in sorted(os.listdir(PACKAGE)):
        if name.endswith(".py"):
            with open(os.path.join(PACKAGE, name), encoding="utf-8") as source:
                yield name, source.read()


def bound_names(tree):
    """Every name that a file gives to something, and the line."""
    for node in ast.walk(tree):
        if isinstance(node, (ast.FunctionDef, ast.ClassDef)):
            yield node.name, node.lineno
        elif isinstance(node, ast.arg):
            yield node.arg, node.lineno
        elif isinstance(node, ast.Name) and isinstance(node.ctx, ast.Store):
            yield node.id, node.lineno
        elif isinstance(node, ast.Attribute):
            yield node.attr, node.lineno
        elif isinstance(node, ast.alias):
            yield node.asname or node.name, node.lineno


def called(node):
    """The plain name that a node calls, None where it calls none."""
    return node.func.id if isinstance(node, ast.Call) and isinstance(node.func, ast.Name) else None


def imported(tree):
    """The names that a file imports, with the files that they are from."""
    return {alias.name: node.module for node in ast.walk(tree) if isinstance(node, ast.ImportFrom)
            for alias in node.names}


def methods_and_attributes():
    """The names of all methods that classes define, and of all attributes that are assigned."""
    methods, attributes = set(), set()
    for name, text in sources():
        for node in ast.walk(ast.parse(text)):
            if isinstance(node, ast.ClassDef):
                methods |= {part.name for part in node.body if isinstance(part, ast.FunctionDef)}
            if isinstance(node, ast.Attribute) and isinstance(node.ctx, ast.Store):
                attributes.add(node.attr)
    return methods, attributes


class Language(unittest.TestCase):
    def test_files(self):
        for name in os.listdir(PACKAGE):
            if name != "__pycache__":
                self.assertRegex(name, r"^(__init__|[a-z][a-z0-9_]*)\.py$")

    def test_signs_and_sizes(self):
        for name, text in sources():
            self.assertTrue(all(sign == "\n" or " " <= sign <= "~" for sign in text), name)
            lines = text.split("\n")
            self.assertLessEqual(len(lines) - 1, 399, name)
            for at, line in enumerate(lines):
                self.assertLessEqual(len(line), 120, (name, at + 1))

    def test_barred_words(self):
        for name, text in sources():
            self.assertIsNone(BARRED_WORDS.search(text), name)

    def test_barred_statements(self):
        for name, text in sources():
            for node in ast.walk(ast.parse(text)):
                self.assertNotIsInstance(node, BARRED_NODES, (name, getattr(node, "lineno", 0)))
                if isinstance(node, ast.Constant):
                    self.assertNotIsInstance(node.value, (float, complex), name)
                    self.assertNotIn("%", str(node.value), (name, node.lineno))

    def test_imports(self):
        for name, text in sources():
            for node in ast.walk(ast.parse(text)):
                if isinstance(node, ast.ImportFrom):
                    self.assertEqual(node.level, 0, name)
                    self.assertRegex(node.module, r"^darkthread\.[a-z_]+$", name)

    def test_functions_of_at_most_forty_lines(self):
        for name, text in sources():
            for node in ast.walk(ast.parse(text)):
                if isinstance(node, ast.FunctionDef):
                    self.assertLessEqual(node.end_lineno - node.lineno + 1, 40, (name, node.name))

    def test_builtins(self):
        for name, text in sources():
            for node in ast.walk(ast.parse(text)):
                if isinstance(node, ast.Name) and isinstance(node.ctx, ast.Load) and node.id in ALL_BUILTINS:
                    self.assertIn(node.id, BUILTINS, (name, node.lineno))

    def test_plain_names(self):
        for name, text in sources():
            for bound, line in bound_names(ast.parse(text)):
                if bound not in METHODS:
                    self.assertRegex(bound, r"^[A-Za-z][A-Za-z0-9_]*$", (name, line))

    def test_no_name_of_a_builtin(self):
        for name, text in sources():
            attributes = {node.attr for node in ast.walk(ast.parse(text)) if isinstance(node, ast.Attribute)}
            for bound, line in bound_names(ast.parse(text)):
                if bound not in attributes:
                    self.assertNotIn(bound, ALL_BUILTINS, (name, line))

    def test_no_name_is_a_method_and_an_attribute(self):
        methods, attributes = methods_and_attributes()
        self.assertEqual(methods & attributes, set())

    def test_methods_and_attributes_are_known(self):
        methods, attributes = methods_and_attributes()
        for name, text in sources():
            for node in ast.walk(ast.parse(text)):
                if isinstance(node, ast.Attribute):
                    self.assertIn(node.attr, methods | attributes | VALUE_METHODS, (name, node.lineno))

    def test_no_local_name_of_an_import(self):
        for name, text in sources():
            tree = ast.parse(text)
            names = set(imported(tree))
            for node in ast.walk(tree):
                if isinstance(node, ast.arg):
                    self.assertNotIn(node.arg, names, (name, node.lineno))
                elif isinstance(node, ast.Name) and isinstance(node.ctx, ast.Store):
                    self.assertNotIn(node.id, names, (name, node.lineno))

    def test_imports_name_the_file_that_defines(self):
        here = {f"darkthread.{name[:-3]}": ast.parse(text) for name, text in sources()}
        defined = {module: {node.name for node in tree.body if isinstance(node, (ast.FunctionDef, ast.ClassDef))}
                   | {target.id for node in tree.body if isinstance(node, ast.Assign) for target in node.targets}
                   for module, tree in here.items()}
        for module, tree in here.items():
            for name, source in imported(tree).items():
                self.assertIn(name, defined[source], module)

    def test_no_files_import_each_other(self):
        links = {f"darkthread.{name[:-3]}": set(imported(ast.parse(text)).values()) for name, text in sources()}
        while links:
            free = [module for module in links if not links[module] & set(links)]
            self.assertTrue(free, links)
            for module in free:
                del links[module]

    def test_no_generators(self):
        for name, text in sources():
            for node in ast.walk(ast.parse(text)):
                self.assertNotIsInstance(node, (ast.Yield, ast.YieldFrom), name)
                if called(node) in TAKE_A_LIST:
                    for handed in node.args:
                        self.assertNotIsInstance(handed, ast.GeneratorExp, (name, node.lineno))

    def test_iterated_at_once(self):
        for name, text in sources():
            tree = ast.parse(text)
            at_once = [node.iter for node in ast.walk(tree) if isinstance(node, (ast.For, ast.comprehension))]
            at_once += [node.args[0] for node in ast.walk(tree)
                        if called(node) in ("list", "tuple", "dict", "sum", "enumerate", "zip") and node.args]
            for node in ast.walk(tree):
                if called(node) in ITERATED_AT_ONCE:
                    self.assertIn(node, at_once, (name, node.lineno))

    def test_handlers_name_own_errors_alone(self):
        own = {node.name for name, text in sources() if name == "errors.py"
               for node in ast.parse(text).body if isinstance(node, ast.ClassDef)}
        for name, text in sources():
            for node in ast.walk(ast.parse(text)):
                if isinstance(node, ast.ExceptHandler):
                    caught = node.type.elts if isinstance(node.type, ast.Tuple) else [node.type]
                    self.assertTrue({part.id for part in caught} <= own, (name, node.lineno))

    def test_raises_create_their_error_on_the_spot(self):
        for name, text in sources():
            for node in ast.walk(ast.parse(text)):
                if isinstance(node, ast.Raise):
                    self.assertIsNotNone(called(node.exc), (name, node.lineno))

    def test_starred_calls_of_names_alone(self):
        for name, text in sources():
            for node in ast.walk(ast.parse(text)):
                if isinstance(node, ast.Call):
                    for handed in node.args:
                        if isinstance(handed, ast.Starred):
                            self.assertIsInstance(handed.value, ast.Name, (name, node.lineno))

    def test_tables_are_not_changed_or_passed_on(self):
        tables = {node.targets[0].id for name, text in sources() for node in ast.parse(text).body
                  if isinstance(node, ast.Assign) and isinstance(node.value, (ast.Dict, ast.List))}
        for name, text in sources():
            tree = ast.parse(text)
            read = [node.value for node in ast.walk(tree) if isinstance(node, (ast.Subscript, ast.Attribute))]
            read += [node.comparators[0] for node in ast.walk(tree) if isinstance(node, ast.Compare)]
            for node in ast.walk(tree):
                if isinstance(node, ast.Name) and node.id in tables and isinstance(node.ctx, ast.Load):
                    self.assertIn(node, read, (name, node.lineno))

    def test_is_with_none_true_and_false_alone(self):
        for name, text in sources():
            for node in ast.walk(ast.parse(text)):
                if isinstance(node, ast.Compare):
                    for sign, right in zip(node.ops, node.comparators):
                        if isinstance(sign, (ast.Is, ast.IsNot)):
                            self.assertIsInstance(right, ast.Constant, (name, node.lineno))


if __name__ == "__main__":
    unittest.main()

"""The rules for the files of the package that can be read off them: sizes, characters, imports."""

import ast
import builtins
import unittest
from pathlib import Path

PACKAGE = Path(__file__).resolve().parent.parent / "missedparts"
LIBRARY = {"heapq", "math", "itertools", "collections", "__future__"}
BUILTINS = set(
    "len range enumerate zip min max sum abs sorted reversed int str bool bytes list tuple dict set frozenset isinstance "
    "ord repr any all divmod pow map iter next type getattr hasattr setattr super property staticmethod classmethod "
    "Exception ValueError TypeError KeyError IndexError LookupError ZeroDivisionError ArithmeticError OverflowError "
    "RuntimeError NotImplementedError AttributeError StopIteration NotImplemented".split())
METHODS = set(
    "append clear copy count endswith extend find get index insert isalnum isalpha isdigit islower isspace isupper items "
    "join keys ljust lower lstrip partition pop remove replace reverse rfind rjust rpartition rsplit rstrip setdefault "
    "split splitlines startswith strip update upper values zfill bit_length encode".split())
CHANGING = set("append clear extend insert pop remove reverse setdefault update add discard".split())
COUNTING = "add sub mul floordiv mod pow and or xor lshift rshift".split()
# What runs without being called by its name: it may change nothing but what it has made, and call nothing it is passed.
SIGNS = set(
    "__eq__ __ne__ __lt__ __le__ __gt__ __ge__ __neg__ __pos__ __invert__ __abs__ __bool__ __contains__ __getitem__ __len__ "
    "__repr__ __str__".split()) | {f"__{side}{word}__" for side in ["", "r"] for word in COUNTING} - {"__rpow__"}
# The signs that may change their object, and other methods that may do so.
INPLACE_SIGNS = {f"__i{word}__" for word in COUNTING} | {"__setitem__"}
CHANGING_SIGNS = set("__init__ __iter__ __enter__ __exit__".split()) | INPLACE_SIGNS


def sources():
    """Each file of the package with what is written in it."""
    return [(path, path.read_text(encoding="utf-8")) for path in sorted(PACKAGE.rglob("*.py"))]


def trees():
    """Each file of the package as a tree."""
    return [(path, ast.parse(text)) for path, text in sources()]


def bound_in(node):
    """The names that a function or a file binds, each where it does so."""
    for each in ast.walk(node):
        if isinstance(each, (ast.FunctionDef, ast.ClassDef)):
            yield each.name
        elif isinstance(each, ast.arg):
            yield each.arg
        elif isinstance(each, ast.Name) and not isinstance(each.ctx, ast.Load):
            yield each.id


def methods(some_trees):
    """Each method of some files by its name; several may have the same one."""
    found = {}
    for path, tree in some_trees:
        for kind in tree.body:
            if isinstance(kind, ast.ClassDef):
                for node in kind.body:
                    if isinstance(node, ast.FunctionDef):
                        found.setdefault(node.name, []).append((path, node))
    return found


def is_property(node):
    """Whether what stands in the body of a class is a property; its setter is another such node."""
    return isinstance(node, ast.FunctionDef) and "property" in [ast.unparse(each) for each in node.decorator_list]


def setters_of(kind):
    """The names of the properties of a class that have a setter."""
    return {node.name for node in kind.body if isinstance(node, ast.FunctionDef)
            and f"{node.name}.setter" in [ast.unparse(each) for each in node.decorator_list]}


def properties_without_setter(some_trees):
    """The names of properties that at least one class has without a setter, even if another class has one."""
    kinds = [node for _, tree in some_trees for node in ast.walk(tree) if isinstance(node, ast.ClassDef)]
    return {node.name for kind in kinds for node in kind.body if is_property(node) and node.name not in setters_of(kind)}


def assigned_attributes(tree):
    """Each place of a file where an attribute is assigned (or deleted), in whatever way: by =, +=, for, with, a star."""
    return [each for each in ast.walk(tree) if isinstance(each, ast.Attribute) and not isinstance(each.ctx, ast.Load)]


def assigned_without_setter(some_trees):
    """Where an attribute is assigned that has the name of a property without a setter: file, row, name."""
    without = properties_without_setter(some_trees)
    return [(path, each.lineno, each.attr) for path, tree in some_trees for each in assigned_attributes(tree) if each.attr in without]


def properties(some_trees):
    """The names of all properties of some files."""
    return {node.name for row in methods(some_trees).values() for _, node in row if is_property(node)}


def called_by_name(some_trees):
    """For each file the functions and the classes that a name in it means, those in a table of functions among them."""
    own = {path.stem: {} for path, _ in some_trees}
    for path, tree in some_trees:
        names = own[path.stem]
        for node in tree.body:
            if isinstance(node, (ast.FunctionDef, ast.ClassDef)):
                names[node.name] = [(path, node)]
            if isinstance(node, ast.Assign):
                held = [each for name in ast.walk(node.value) if isinstance(name, ast.Name) for each in names.get(name.id, [])]
                names.update({target.id: held for target in node.targets})
    meant = {stem: dict(names) for stem, names in own.items()}
    for path, tree in some_trees:
        for node in tree.body:
            if isinstance(node, ast.ImportFrom) and node.module.startswith("missedparts."):
                there = own.get(node.module.split(".")[1], {})
                meant[path.stem].update({name.name: there[name.name] for name in node.names if name.name in there})
    return meant


def run_by(some_trees, roots):
    """All functions that run when these do, themselves among them; methods are told by their names alone."""
    known, meant = methods(some_trees), called_by_name(some_trees)
    waiting, met, found = list(roots), set(), {}
    while waiting:
        path, node = waiting.pop()
        if (path, node.lineno) in met:
            continue
        met.add((path, node.lineno))
        if isinstance(node, ast.ClassDef):
            # To call a class is to call its constructor; where it has none, that of one in front of it.
            made = [each for each in node.body if getattr(each, "name", "") == "__init__"]
            waiting.extend([(path, each) for each in made])
            walked = [] if made else node.bases
        else:
            found[path, node.lineno] = node
            walked = ast.walk(node)
        for each in walked:
            if isinstance(each, ast.Name):
                waiting.extend(meant[path.stem].get(each.id, []))
            if isinstance(each, ast.Attribute):
                waiting.extend(known.get(each.attr, []))
    return found


def signs_and_properties(some_trees, names):
    """Each method of some files that has one of these names or is a property."""
    return [each for name, row in sorted(methods(some_trees).items()) for each in row if name in names or is_property(each[1])]


def run_by_signs():
    """All functions of the package that run when a sign that changes nothing, or a property, does."""
    return run_by(trees(), signs_and_properties(trees(), SIGNS))


def assigned_by_signs(some_trees):
    """Where a sign's method or a property comes to an assignment to an attribute with the name of a property.

    For each such pair the file, row and name of what comes to it, and the file, row and attribute that is assigned.
    """
    names = properties(some_trees)
    return [(path.stem, sign.lineno, sign.name, there.stem, each.lineno, each.attr)
            for path, sign in signs_and_properties(some_trees, SIGNS | INPLACE_SIGNS)
            for (there, _), node in run_by(some_trees, [(path, sign)]).items()
            for each in assigned_attributes(node) if each.attr in names]


class Files(unittest.TestCase):
    def test_files_are_python_alone(self):
        for path in PACKAGE.rglob("*"):
            if "__pycache__" not in path.parts and path.is_file():
                self.assertEqual(path.suffix, ".py", path)

    def test_sizes(self):
        for path, text in sources():
            lines = text.split("\n")
            self.assertLessEqual(len(lines), 400, path)
            self.assertLessEqual(max(len(line) for line in lines), 120, path)
            for node in ast.walk(ast.parse(text)):
                if isinstance(node, ast.FunctionDef):
                    self.assertLessEqual(node.end_lineno - node.lineno + 1, 40, (path, node.name))

    def test_characters(self):
        for path, text in sources():
            self.assertTrue(all(letter == "\n" or " " <= letter <= "~" for letter in text), path)

    def test_no_percent_sign_in_strings(self):
        for path, text in sources():
            for node in ast.walk(ast.parse(text)):
                if isinstance(node, ast.Constant) and isinstance(node.value, str):
                    self.assertNotIn("%", node.value, path)

    def test_imports(self):
        for path, text in sources():
            for node in ast.walk(ast.parse(text)):
                self.assertNotIsInstance(node, ast.Import, path)
                if isinstance(node, ast.ImportFrom):
                    self.assertEqual(node.level, 0, path)
                    top = node.module.split(".")[0]
                    self.assertTrue(top == "missedparts" or node.module in LIBRARY, (path, node.module))
                    self.assertNotIn("*", [name.name for name in node.names], path)

    def test_no_two_files_import_each_other(self):
        needs = {path.stem: sorted({node.module.split(".")[1] for node in ast.walk(tree)
                                    if isinstance(node, ast.ImportFrom) and node.module.startswith("missedparts.")})
                 for path, tree in trees()}
        ready = []
        while len(ready) < len(needs):
            more = [name for name in needs if name not in ready and all(each in ready for each in needs[name])]
            self.assertTrue(more, sorted(set(needs) - set(ready)))
            ready.extend(more)

    def test_each_import_is_used_and_names_the_file_that_defines_it(self):
        defined = {path.stem: {node.name for node in tree.body if isinstance(node, (ast.FunctionDef, ast.ClassDef))}
                   | {each.id for node in tree.body if isinstance(node, ast.Assign) for each in node.targets}
                   for path, tree in trees()}
        for path, tree in trees():
            used = {node.id for node in ast.walk(tree) if isinstance(node, ast.Name)}
            for node in ast.walk(tree):
                if isinstance(node, ast.ImportFrom) and node.module.startswith("missedparts."):
                    for name in node.names:
                        self.assertIn(name.name, defined[node.module.split(".")[1]], path)
                        self.assertIn(name.name, used, path)


class Words(unittest.TestCase):
    def test_no_name_of_a_builtin(self):
        for path, tree in trees():
            names = {name for name in bound_in(tree)} - {
                each.name for node in ast.walk(tree) if isinstance(node, ast.ClassDef) for each in node.body
                if isinstance(each, ast.FunctionDef)}
            # The sign of what is left unread is not a builtin, though examples that are run may make it one.
            self.assertEqual(names & set(dir(builtins)) - {"_"}, set(), path)

    def test_only_some_builtins(self):
        for path, tree in trees():
            used = {node.id for node in ast.walk(tree) if isinstance(node, ast.Name) and isinstance(node.ctx, ast.Load)}
            self.assertEqual((used & set(dir(builtins))) - BUILTINS, set(), path)

    def test_no_local_name_of_an_import_or_a_class(self):
        for path, tree in trees():
            outer = {name.name for node in tree.body if isinstance(node, ast.ImportFrom) for name in node.names}
            outer |= {node.name for node in tree.body if isinstance(node, ast.ClassDef)}
            for node in ast.walk(tree):
                if isinstance(node, ast.FunctionDef):
                    self.assertEqual(set(bound_in(node)) & outer - {node.name}, set(), (path, node.name))

    def test_methods(self):
        own = set(methods(trees()))
        for path, tree in trees():
            for node in ast.walk(tree):
                if isinstance(node, ast.Call) and isinstance(node.func, ast.Attribute):
                    self.assertIn(node.func.attr, own | METHODS, path)

    def test_plain_names(self):
        barred = {"register", "mro", "elements", "open", "input", "law", "id", "vars", "dir", "type", "exec", "eval"}
        for path, tree in trees():
            for name in bound_in(tree):
                self.assertTrue(name.isascii() and not name.startswith("__") or name in SIGNS | CHANGING_SIGNS, (path, name))
                self.assertNotIn(name, barred, path)


class Forms(unittest.TestCase):
    def test_no_form_that_is_left_out(self):
        left_out = (ast.GeneratorExp, ast.Div, ast.AsyncFunctionDef, ast.Await, ast.Global, ast.AnnAssign, ast.Yield)
        for path, tree in trees():
            for node in ast.walk(tree):
                self.assertNotIsInstance(node, left_out, path)
                if isinstance(node, ast.Constant):
                    self.assertNotIsInstance(node.value, (float, complex), path)
                if isinstance(node, (ast.Set, ast.SetComp)):
                    self.fail((path, node.lineno))

    def test_sameness_is_asked_of_single_values_alone(self):
        for path, tree in trees():
            for node in ast.walk(tree):
                if isinstance(node, ast.Compare):
                    for sign, other in zip(node.ops, node.comparators):
                        if isinstance(sign, (ast.Is, ast.IsNot)):
                            self.assertIn(getattr(other, "value", 0), [None, True, False], (path, node.lineno))
                            self.assertIsInstance(other, ast.Constant, (path, node.lineno))

    def test_tables_have_functions_of_their_own_file(self):
        for path, tree in trees():
            above = set()
            for node in tree.body:
                if isinstance(node, ast.Assign):
                    names = {each.id for each in ast.walk(node.value) if isinstance(each, ast.Name)}
                    self.assertEqual(names - above, set(), (path, node.lineno))
                    self.assertFalse([each for each in ast.walk(node.value) if isinstance(each, ast.Call)], (path, node.lineno))
                if isinstance(node, ast.FunctionDef):
                    above.add(node.name)

    def test_what_errors_are_caught(self):
        own = {node.name for _, tree in trees() for node in tree.body if isinstance(node, ast.ClassDef)}
        for path, tree in trees():
            for node in ast.walk(tree):
                if isinstance(node, ast.ExceptHandler):
                    kinds = node.type.elts if isinstance(node.type, ast.Tuple) else [node.type]
                    self.assertEqual({kind.id for kind in kinds} - own, set(), (path, node.lineno))
                if isinstance(node, ast.Raise):
                    self.assertIsInstance(node.exc, ast.Call, (path, node.lineno))
                    self.assertIn(node.exc.func.id, own | {"TypeError"}, (path, node.lineno))

    def test_only_some_decorators(self):
        for path, tree in trees():
            for node in ast.walk(tree):
                if isinstance(node, ast.FunctionDef):
                    names = [ast.unparse(each) for each in node.decorator_list]
                    self.assertIn(names, [[], ["property"], ["staticmethod"], [f"{node.name}.setter"]], (path, node.name))

    def test_sets_are_only_counted_and_sorted(self):
        for path, tree in trees():
            right = [each for node in ast.walk(tree) if isinstance(node, ast.Call) and isinstance(node.func, ast.Name)
                     and node.func.id in ("len", "sorted") for each in node.args]
            for node in ast.walk(tree):
                if isinstance(node, ast.Call) and isinstance(node.func, ast.Name) and node.func.id == "set":
                    self.assertIn(node, right, (path, node.lineno))

    def test_what_signs_run_calls_nothing_that_it_is_passed(self):
        for (path, _), node in run_by_signs().items():
            passed = {each.arg for each in ast.walk(node) if isinstance(each, ast.arg)}
            for each in ast.walk(node):
                if isinstance(each, ast.Call) and isinstance(each.func, ast.Name):
                    self.assertNotIn(each.func.id, passed, (path, node.name))

    def test_what_signs_run_changes_only_what_it_has_made(self):
        for (path, _), node in run_by_signs().items():
            made = {target.id for each in ast.walk(node) if isinstance(each, ast.Assign) for target in each.targets
                    if isinstance(target, ast.Name) and isinstance(each.value, (ast.List, ast.Dict, ast.ListComp, ast.DictComp))}
            for each in ast.walk(node):
                place = (path, node.name, getattr(each, "lineno", 0))
                self.assertNotIsInstance(each, ast.AugAssign, place)
                if isinstance(each, ast.Call) and isinstance(each.func, ast.Attribute) and each.func.attr in CHANGING:
                    self.assertIn(getattr(each.func.value, "id", None), made, place)
                if isinstance(each, ast.Subscript) and not isinstance(each.ctx, ast.Load):
                    self.assertIn(getattr(each.value, "id", None), made, place)
                if isinstance(each, ast.Attribute) and not isinstance(each.ctx, ast.Load):
                    self.assertEqual((node.name, each.value.id), ("__init__", "self"), place)


# A class with a property, a setter of it, and a class with an attribute of the same name.
SHELF = """
class Shelf:
    @property
    def top(self):
        return self._top
"""
SETTER = """
    @top.setter
    def top(self, value):
        self._top = value
"""
BOX = """
class Box:
    def __init__(self, top):
        self.top = top
"""
# An error with such an attribute, and a class with a sign that may come to it.
ERRORS = """
class Bad(ValueError):
    def __init__(self, top):
        self.top = top
def need(one, other):
    if one != other:
        raise Bad(one)
"""
BAG = """
from missedparts.errors import need
def told(one, other):
    need(one, other)
TOLD = (told,)
class Bag:
    def held(self, other):
        need(self, other)

    def SIGN(self, other):
        ROW

    def low(self, other):
        return 3
"""


class Properties(unittest.TestCase):
    def test_what_is_assigned_has_the_name_of_no_property_without_a_setter(self):
        self.assertEqual(assigned_without_setter(trees()), [])

    def test_that_such_a_place_is_found(self):
        def found(*texts):
            return assigned_without_setter([(at, ast.parse(text)) for at, text in enumerate(texts)])
        self.assertEqual(found(SHELF, BOX), [(1, 4, "top")])
        self.assertEqual(found(BOX + SHELF), [(0, 4, "top")])
        self.assertEqual(found(SHELF + SETTER, BOX), [])
        # One class with the setter does not make up for another one that lacks it.
        self.assertEqual(found(SHELF + SETTER, BOX, SHELF.replace("Shelf", "Desk")), [(1, 4, "top")])
        self.assertEqual(found(SHELF, BOX.replace("self.top", "self.low")), [])
        for row in ["box.top += 1", "a, (box.top, *b) = 1, (2, 3)", "for box.top in a: pass", "a = box.top = 1", "box.top: int = 1", "del box.top"]:
            self.assertEqual(found(SHELF, row), [(1, 1, "top")], row)
        for row in ["box.top[0] = 1", "box.top.low = 1", "top = box.top", "box.top()"]:
            self.assertEqual(found(SHELF, row), [], row)

    def test_no_sign_comes_to_an_assignment_to_what_is_called_as_a_property(self):
        self.assertEqual(assigned_by_signs(trees()), [])

    def test_that_such_a_sign_is_found(self):
        def found(sign="__and__", row="need(self, other)", errors=ERRORS, shelf=SHELF):
            texts = {"errors": errors, "bags": BAG.replace("SIGN", sign).replace("ROW", row), "shelves": shelf}
            return assigned_by_signs([(Path(f"{name}.py"), ast.parse(text)) for name, text in texts.items()])

        expected = [("bags", 10, "__and__", "errors", 4, "top")]
        self.assertEqual(found(), expected)
        # It is asked by name, so the setter makes no difference.
        self.assertEqual(found(shelf=SHELF + SETTER), expected)
        self.assertEqual(found(shelf=SHELF.replace("top", "low")), [])
        # Whatever stands between the sign and the assignment.
        for row in ["told(self, other)", "TOLD[0](self, other)", "self.held(other)", "x = [other.held(each) for each in self]", "self.kept = told"]:
            self.assertEqual(found(row=row), expected, row)
        heir = ERRORS.replace("raise Bad", "raise Worse") + "class Worse(Bad):\n    pass\n"
        self.assertEqual(found(errors=heir), expected)
        for row in ["return self.low(other)", "return self.top", "other.low = 1"]:
            self.assertEqual(found(row=row), [], row)
        for sign in sorted(SIGNS | INPLACE_SIGNS):
            self.assertEqual(found(sign), [("bags", 10, sign, "errors", 4, "top")])
        for name in ["__init__", "__enter__", "joined"]:
            self.assertEqual(found(name), [])
        # A property that is read comes to no such place either.
        shelf = "from missedparts.errors import need" + SHELF.replace("self._top", "need(self, 1)")
        self.assertEqual(found("joined", shelf=shelf), [("shelves", 4, "top", "errors", 4, "top")])

    def test_no_error_has_an_attribute_that_is_called_as_a_property(self):
        # A sign may raise any error, and the constructor of an error assigns each of its attributes.
        assigned = {each.attr for path, tree in trees() if path.stem == "errors" for each in assigned_attributes(tree)}
        self.assertTrue(assigned > {"one", "other"})
        self.assertEqual(assigned & properties(trees()), set())

    def test_a_setter_stands_straight_below_its_property(self):
        for path, tree in trees():
            for kind in [node for node in ast.walk(tree) if isinstance(node, ast.ClassDef)]:
                for ahead, node in zip([None] + kind.body, kind.body):
                    if getattr(node, "name", "") in setters_of(kind) and not is_property(node):
                        self.assertTrue(is_property(ahead) and ahead.name == node.name, (path, node.lineno))
                        self.assertEqual(ast.unparse(node.args), "self, value", (path, node.lineno))

    def test_no_property_is_assigned_in_a_loop(self):
        names = {node.name for _, tree in trees() for node in ast.walk(tree) if is_property(node)}
        for path, tree in trees():
            for loop in [node for node in ast.walk(tree) if isinstance(node, ast.For)]:
                self.assertEqual([each.lineno for each in assigned_attributes(loop) if each.attr in names], [], path)

    def test_no_method_is_read_off_a_class(self):
        # Else an attribute could not have the name of another class's property, with or without a setter.
        kinds = {node.name: node for _, tree in trees() for node in tree.body if isinstance(node, ast.ClassDef)}
        plain = {(name, node.name) for name, kind in kinds.items() for node in kind.body
                 if isinstance(node, ast.FunctionDef) and [ast.unparse(each) for each in node.decorator_list] != ["staticmethod"]}
        for path, tree in trees():
            for each in ast.walk(tree):
                if isinstance(each, ast.Attribute):
                    self.assertNotIn((ast.unparse(each.value), each.attr), plain, (path, each.lineno))


if __name__ == "__main__":
    unittest.main()

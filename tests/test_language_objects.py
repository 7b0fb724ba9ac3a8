"""The rules of the language subset that come with classes that have operators, properties and their own equality."""

import ast
import unittest

from test_language import METHODS, nodes, trees
from walked import CHANGING, chosen_and_changed, items_walked, walked_and_changed

IN_PLACE = {"__iadd__", "__isub__", "__imul__", "__ior__", "__iand__", "__ixor__", "__ilshift__", "__irshift__"}

QUIET = set(
    "__eq__ __ne__ __lt__ __le__ __gt__ __ge__ __repr__ __str__ __len__ __add__ __sub__ __mul__ __and__ __or__ __xor__ "
    "__lshift__ __rshift__ __neg__ __pos__ __invert__ __abs__ __bool__ __contains__ __getitem__".split()
)

OTHERS = {"__init__", "__enter__", "__exit__", "__call__", "__iter__", "__setitem__"}

AT_ONCE = {"zip", "enumerate", "reversed", "range", "map"}
VIEWS = {"items", "keys", "values"}
TAKERS = {"list", "tuple", "dict", "sorted", "sum", "any", "all", "enumerate", "zip", "min", "max"}


def classes():
    return [node for _, node in nodes(ast.ClassDef)]


def functions():
    return [node for _, node in nodes(ast.FunctionDef)]


def methods(node):
    return [row for row in node.body if isinstance(row, ast.FunctionDef)]


def decorators(node):
    return [ast.unparse(decorator) for decorator in node.decorator_list]


def called(node):
    """The names of the functions and methods that a function calls. (An object that it makes is new.)"""
    for call in ast.walk(node):
        if isinstance(call, ast.Call) and isinstance(call.func, ast.Name):
            yield call.func.id
        elif isinstance(call, ast.Call) and isinstance(call.func, ast.Attribute):
            yield call.func.attr


def quiet_functions():
    """The operators and properties, and all that they call: they may change nothing."""
    by_name = {}
    for node in functions():
        by_name.setdefault(node.name, []).append(node)
    waiting = [node for node in functions() if node.name in QUIET or "property" in decorators(node)]
    found = []
    while waiting:
        node = waiting.pop()
        if node not in found:
            found.append(node)
            for name in called(node):
                waiting.extend(by_name.get(name, []))
    return found


def own_lists(node):
    """The local names to which a function assigns nothing but what it creates itself."""
    made, other = set(), {argument.arg for argument in node.args.args}
    for row in ast.walk(node):
        if isinstance(row, ast.Assign):
            for target in row.targets:
                for name in ast.walk(target):
                    if isinstance(name, ast.Name) and isinstance(name.ctx, ast.Store):
                        (made if target is name and creates(row.value) else other).add(name.id)
        elif isinstance(row, (ast.For, ast.comprehension)):
            other.update(name.id for name in ast.walk(row.target) if isinstance(name, ast.Name))
    return made - other


def creates(value):
    if isinstance(value, ast.Call):
        return isinstance(value.func, ast.Name) and value.func.id in ("list", "dict", "sorted")
    return isinstance(value, (ast.List, ast.Dict, ast.ListComp))


def parents(tree):
    return {child: node for node in ast.walk(tree) for child in ast.iter_child_nodes(node)}


def is_call_of(node, names):
    return isinstance(node, ast.Call) and isinstance(node.func, ast.Name) and node.func.id in names


class ObjectsTest(unittest.TestCase):
    def test_double_underscores(self):
        for node in functions():
            if node.name.startswith("__"):
                self.assertIn(node.name, QUIET | IN_PLACE | OTHERS)

    def test_nothing_is_added_in_place(self):
        """As a class has __iadd__, what an operator runs has no +=; here nothing has."""
        for path, node in nodes(ast.AugAssign):
            self.fail(f"{path.name}:{node.lineno}")

    def test_operators_and_properties_change_nothing(self):
        found = quiet_functions()
        self.assertGreater(len(found), 20)
        for node in found:
            own = own_lists(node)
            for row in ast.walk(node):
                where = f"{node.name}:{getattr(row, 'lineno', '')}"
                if isinstance(row, ast.Attribute):
                    self.assertIsInstance(row.ctx, ast.Load, where)
                if isinstance(row, ast.Subscript) and not isinstance(row.ctx, ast.Load):
                    self.assertTrue(isinstance(row.value, ast.Name) and row.value.id in own, where)
                if isinstance(row, ast.Call) and isinstance(row.func, ast.Attribute) and row.func.attr in CHANGING:
                    self.assertTrue(isinstance(row.func.value, ast.Name) and row.func.value.id in own, where)

    def test_operators_and_properties_call_nothing_that_is_passed(self):
        for node in quiet_functions():
            passed = {argument.arg for argument in node.args.args} | {
                name.id for name in ast.walk(node) if isinstance(name, ast.Name) and isinstance(name.ctx, ast.Store)}
            for row in ast.walk(node):
                if isinstance(row, ast.Call):
                    self.assertFalse(isinstance(row.func, ast.Name) and row.func.id in passed, node.name)
                    self.assertIsInstance(row.func, (ast.Name, ast.Attribute), node.name)

    def test_names_in_classes(self):
        """No name is an attribute here and a method or a property there."""
        stored = {node.attr for _, node in nodes(ast.Attribute) if isinstance(node.ctx, ast.Store)}
        told = {row.name for node in classes() for row in methods(node)}
        given = {target.id for node in classes() for row in node.body if isinstance(row, ast.Assign)
                 for target in row.targets}
        self.assertFalse(stored & told)
        self.assertFalse(given & (stored | told))
        plain = {row.name for node in classes() for row in methods(node) if not row.decorator_list}
        self.assertFalse((told - plain) & plain)
        for path, node in nodes(ast.Attribute):
            if isinstance(node.ctx, ast.Load):
                self.assertIn(node.attr, stored | told | given | METHODS | {"setter"}, f"{path.name}:{node.lineno}")

    def test_ends_of_blocks(self):
        for node in functions():
            if node.name == "__exit__":
                self.assertEqual([argument.arg for argument in node.args.args], ["self", "kind", "value", "trace"])
                for row in node.body:
                    # What stands behind an "if" has four spaces more.
                    self.assertIsInstance(row, (ast.Assign, ast.If))
                    self.assertRegex(ast.unparse(row), r"\A(if kind is not None:\n    )?self(\.\w+)+ = self(\.\w+)+\Z")

    def test_iteration(self):
        for node in classes():
            names = {row.name: row for row in methods(node)}
            if "__iter__" in names:
                self.assertRegex(ast.unparse(names["__iter__"].body[-1]), r"\A(return iter\(self(\.\w+)+\)|raise TypeError\('.*'\))\Z")
            if "__getitem__" in names:
                self.assertIn("__iter__", names)
            if "__len__" in names:
                self.assertRegex(ast.unparse(names["__len__"].body[-1]), r"\Areturn len\(self(\.\w+)+\)\Z")

    def test_iterated_at_once(self):
        for path, tree in trees().items():
            above = parents(tree)
            for node in ast.walk(tree):
                view = isinstance(node, ast.Call) and isinstance(node.func, ast.Attribute) and node.func.attr in VIEWS
                if view or is_call_of(node, AT_ONCE):
                    user = above[node]
                    looped = isinstance(user, (ast.For, ast.comprehension)) and user.iter is node
                    taken = is_call_of(user, TAKERS) and user.args[0] is node
                    self.assertTrue(looped or taken, f"{path.name}:{node.lineno}")

    def test_what_is_walked_is_not_changed(self):
        for path, tree in trees().items():
            self.assertEqual(walked_and_changed(tree), [], path)
            self.assertEqual(chosen_and_changed(tree), [], path)
            self.assertEqual(items_walked(tree), [], path)

    def test_what_is_walked_and_changed_is_found(self):
        for loop, row in (
            ("for x in rows", "rows.append(x)"), ("for x in box.rows", "box.rows.pop()"),
            ("for k, x in enumerate(self.rows)", "self.rows[k] = x"), ("for x in box.rows", "box.rows[0] = x"),
            ("for x in box.rows", "other.setdefault(box.least[x], []).append(x)"), ("for x in rows", "del rows[0]"),
            ("for x in (rows if many else others)", "others.append(x)"), ("for x in rows.values()", "rows[x].append(x)"),
        ):
            self.assertTrue(walked_and_changed(ast.parse(f"{loop}:\n    {row}")), row)
        for loop, row in (("for x in list(rows)", "others.append(x)"), ("for x in self.rows", "self.others[x] = x")):
            self.assertFalse(walked_and_changed(ast.parse(f"{loop}:\n    {row}")), row)

    def test_what_is_chosen_and_changed_is_found(self):
        """The rows of a function that goes on with what waits: each choice, and each item, is told by its row."""
        for first, chosen in (
            ("[self.first] if self.has_maker() else []", True), ("[] if self.many else [self.first]", True),
            ("self.found or []", True), ("self.many and self.found", True), ("[self.first]", False), ("[]", False),
        ):
            tree = ast.parse("\n".join([
                "def made_steps(self):", "    made = {}", f"    waiting = {first}", "    while waiting:",
                "        stand = waiting.pop()", "        if stand not in made:",
                "            made[stand] = {kind: self.steps[stand][kind] for kind in self.sizes[stand]}",
                "            for stands in made[stand].values():", "                waiting.extend(stands)",
                "    return made",
            ]))
            self.assertEqual(chosen_and_changed(tree), ["waiting:9"] if chosen else [], first)
            self.assertEqual(items_walked(tree), ["made[stand]:8"], first)

    def test_what_is_chosen_is_followed(self):
        """By another name, to an item or a field, beside another value, in a comprehension; but not where it ends."""
        for head, loop, row, many in (
            ("xs = rows if k else []", "for x in rows", "xs.append(x)", 1),
            ("xs = [] if k else rows\n    ys = xs", "for x in rows", "ys.append(x)", 1),
            ("xs, y = rows or [], 1", "for x in rows[1:]", "xs[0] = x", 1),
            ("xs = {}\n    xs[0] = rows or []", "for x in rows", "xs[0].append(x)", 1),
            ("xs = k or box.rows", "for x in box.rows", "xs.rows = x", 1),
            ("ys = list(rows)\n    xs = rows if k else []", "for x in ys", "xs.append(x)", 1),
            ("xs = rows if k else []", "for x in others", "ys = [xs.pop() for x in rows]", 1),
            ("xs = rows if k else []", "for x in others", "xs.append(x)", 0),
            ("xs = rows if k else []", "for x in rows", "ys.append(xs)", 0),
            ("xs = list(rows)", "for x in rows", "xs.append(x)", 0),
            ("xs = [] if rows else []", "for x in rows", "xs.append(x)", 0),
        ):
            tree = ast.parse(f"def f(rows, others, box, k, ys):\n    {head}\n    {loop}:\n        {row}")
            self.assertEqual(len(chosen_and_changed(tree)), many, (head, row))

    def test_items_that_are_walked_are_found(self):
        for loop, row, found in (
            ("for x in rows[k]", "rows[x] = k", True), ("for x in rows[k].items()", "rows.pop()", True),
            ("for j, x in enumerate(box.rows[k])", "box.rows = x", True), ("for x in rows[k][0]", "del rows[0]", True),
            ("for x in rows[1:]", "rows[x] = k", False), ("for x in rows[k]", "others[x] = k", False),
        ):
            tree = ast.parse(f"def f(rows, others, box, k):\n    {loop}:\n        pass\n    {row}")
            self.assertEqual(bool(items_walked(tree)), found, loop)

    def test_sets(self):
        for path, tree in trees().items():
            above = parents(tree)
            for node in ast.walk(tree):
                if isinstance(node, (ast.Set, ast.SetComp)) or is_call_of(node, {"set", "frozenset"}):
                    user = above[node]
                    self.assertTrue(is_call_of(user, {"sorted", "len"}) or isinstance(user, ast.Compare),
                                    f"{path.name}:{node.lineno}")

    def test_stars(self):
        for path, node in nodes(ast.Starred):
            self.assertIsInstance(node.value, (ast.Name, ast.Attribute), f"{path.name}:{node.lineno}")

    def test_errors_that_are_caught(self):
        """Python's own are left alone, as little may stand beside them where classes have operators."""
        own = {node.name for node in classes()}
        for path, node in nodes(ast.ExceptHandler):
            self.assertIn(ast.unparse(node.type), own, f"{path.name}:{node.lineno}")

    def test_library(self):
        """Nothing of it goes with objects that are iterated over and have a length."""
        for path, node in nodes(ast.ImportFrom):
            self.assertTrue(node.module.startswith("onlygiven."), f"{path.name}:{node.lineno}")

    def test_sorted_by_sorted(self):
        for path, node in nodes(ast.Attribute):
            self.assertNotEqual(node.attr, "sort", f"{path.name}:{node.lineno}")
        for path, node in nodes(ast.Call):
            if is_call_of(node, {"reversed"}):
                self.assertTrue(is_call_of(node.args[0], {"list", "tuple", "sorted", "range"}), f"{path.name}:{node.lineno}")


if __name__ == "__main__":
    unittest.main()

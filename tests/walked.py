"""What a loop walks and changes (rule L23), as far as the names in a file tell it."""

import ast

CHANGING = set(
    "append clear extend insert pop remove reverse setdefault update sort add discard".split()
)


def chains(expression):
    """The names and the fields of names in an expression, written out."""
    found = set()
    for node in ast.walk(expression):
        base = node
        while isinstance(base, ast.Attribute):
            base = base.value
        if isinstance(base, ast.Name):
            found.add(ast.unparse(node))
    return found - {"self"}


def changed_in(rows):
    """What the rows change: what stands ahead of a method that changes, of an index, or an attribute."""
    for row in rows:
        for node in ast.walk(row):
            if isinstance(node, ast.Call) and isinstance(node.func, ast.Attribute) and node.func.attr in CHANGING:
                yield node.func.value
            elif isinstance(node, (ast.Subscript, ast.Attribute)) and not isinstance(node.ctx, ast.Load):
                yield node.value if isinstance(node, ast.Subscript) else node


def loops(tree):
    """For each loop and comprehension: what it walks, and the rows in which that may not be changed."""
    for node in ast.walk(tree):
        if isinstance(node, ast.For):
            yield [node.iter], node.body
        elif isinstance(node, (ast.ListComp, ast.SetComp, ast.DictComp)):
            yield [part.iter for part in node.generators], [node]


def walked_and_changed(tree):
    """What a loop walks and changes, as far as names tell it: by a name, a field, or where it picks by such."""
    found = []
    for iterated, rows in loops(tree):
        walked = set().union(*[chains(part) for part in iterated])
        for changed in changed_in(rows):
            for name in chains(changed):
                if any(name == other or name.startswith(other + ".") or other.startswith(name + ".") for other in walked):
                    found.append(f"{ast.unparse(changed)}:{changed.lineno}")
    return found


def names_in(expression):
    return {node.id for node in ast.walk(expression) if isinstance(node, ast.Name)}


def base_name(expression):
    """The name ahead of all fields, items and calls; None if there is none."""
    while isinstance(expression, (ast.Attribute, ast.Subscript, ast.Call)):
        expression = expression.func if isinstance(expression, ast.Call) else expression.value
    return expression.id if isinstance(expression, ast.Name) else None


def bases_of_target(target):
    if isinstance(target, (ast.Tuple, ast.List)):
        return [name for part in target.elts for name in bases_of_target(part)]
    return bases_of_target(target.value) if isinstance(target, ast.Starred) else [base_name(target)]


def given_in(function):
    """For each name all that the function assigns to it or to what it holds, or lets it walk."""
    given = {}
    for node in ast.walk(function):
        if isinstance(node, ast.Assign):
            pairs = [(target, node.value) for target in node.targets]
        elif isinstance(node, (ast.For, ast.comprehension)):
            pairs = [(node.target, node.iter)]
        elif isinstance(node, ast.NamedExpr):
            pairs = [(node.target, node.value)]
        else:
            continue
        for target, value in pairs:
            for name in bases_of_target(target):
                given.setdefault(name, []).append(value)
    return given


def made_of(names, given):
    """These names, the names in all that they are given, and so on."""
    found, waiting = set(), list(names)
    while waiting:
        name = waiting.pop()
        if name not in found:
            found.add(name)
            waiting.extend(part for value in given.get(name, []) for part in names_in(value))
    return found


def choices_in(value):
    """What a value is one of, if it is a choice; so for each of several values."""
    if isinstance(value, (ast.Tuple, ast.List)):
        return [choice for part in value.elts for choice in choices_in(part)]
    if isinstance(value, ast.IfExp):
        return [value.body, value.orelse]
    return value.values if isinstance(value, ast.BoolOp) else []


def chosen_by(name, given):
    """The names in the choices by which the name, or another one that it is given as it is, may be given."""
    found, seen, waiting = set(), set(), [name]
    while waiting:
        at = waiting.pop()
        if at not in seen:
            seen.add(at)
            for value in given.get(at, []):
                for part in choices_in(value):
                    found.update(names_in(part))
                waiting.extend([value.id] if isinstance(value, ast.Name) else [])
    return found


def chosen_and_changed(tree):
    """What a loop changes if it is given by a choice among what has, by its names, parts of what the loop walks."""
    found = []
    for function in ast.walk(tree):
        if isinstance(function, ast.FunctionDef):
            given = given_in(function)
            for iterated, rows in loops(function):
                walked = made_of(set().union(*[names_in(part) for part in iterated]), given)
                for changed in changed_in(rows):
                    if chosen_by(base_name(changed), given) & walked:
                        found.append(f"{ast.unparse(changed)}:{changed.lineno}")
    return found


def items_walked(tree):
    """What a loop walks if it is an item, and the function changes what has this item."""
    found = []
    for function in ast.walk(tree):
        if isinstance(function, ast.FunctionDef):
            changed = {base_name(part) for part in changed_in(function.body)} - {None}
            for loop in ast.walk(function):
                if isinstance(loop, ast.For):
                    for node in ast.walk(loop.iter):
                        item = isinstance(node, ast.Subscript) and not isinstance(node.slice, ast.Slice)
                        if item and base_name(node) in changed:
                            found.append(f"{ast.unparse(node)}:{node.lineno}")
    return found

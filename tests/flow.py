"""Lists where the package breaks rules of LANGUAGE.md that only show in what is called, or in what two names mean.

Methods are told apart by their names alone, as a reader who knows no classes would do it.
"""

import ast

MADE = (ast.List, ast.Tuple, ast.Dict, ast.ListComp, ast.DictComp)
MAKERS = ("list", "dict", "set", "sorted")
CHANGING = set("append clear extend insert pop remove reverse setdefault update sort add discard".split())
# Objects that are called, in-place operators and what begins or ends a block may change what they like.
FREE = set("__init__ __call__ __iter__ __enter__ __exit__ __setitem__".split())


def is_quiet(node):
    """Whether a method must change nothing: that of an operator, or a property."""
    decorators = [getattr(part, "id", "") for part in node.decorator_list]
    return "property" in decorators or node.name.startswith("__") and node.name not in FREE and node.name[2] != "i"


def is_made(node):
    """Whether the value of an expression is a new list, dict or tuple."""
    if isinstance(node, ast.BinOp):
        return is_made(node.left) or is_made(node.right)
    if isinstance(node, ast.Call):
        return getattr(node.func, "id", "") in MAKERS
    return isinstance(node, MADE) or isinstance(node, ast.Subscript) and isinstance(node.slice, ast.Slice)


def own_names(function):
    """The local names of a function that only ever mean what it has made."""
    values = {}
    for part in ast.walk(function):
        for target in part.targets if isinstance(part, ast.Assign) else ():
            if isinstance(target, ast.Name):
                values.setdefault(target.id, []).append(part.value)
    return {name for name, given in values.items() if all(is_made(value) for value in given)}


def root_of(node):
    """The name at the beginning of an expression of items and attributes, or an empty text."""
    while isinstance(node, (ast.Attribute, ast.Subscript)):
        node = node.value
    return node.id if isinstance(node, ast.Name) else ""


def is_counting(node):
    """Whether a statement adds a literal integer to a local name."""
    return isinstance(node.target, ast.Name) and isinstance(node.op, ast.Add) and isinstance(node.value, ast.Constant)


def given_names(function):
    """The names of the parameters and local variables of a function."""
    assigned = {
        part.id for part in ast.walk(function) if isinstance(part, ast.Name) and isinstance(part.ctx, ast.Store)
    }
    return assigned.union(part.arg for part in ast.walk(function) if isinstance(part, ast.arg))


def changes_in(function):
    """The lines in which a function changes what it has not made, or could do so, or calls what it was handed."""
    own = own_names(function) | ({"self"} if function.name == "__init__" else set())
    for part in ast.walk(function):
        if isinstance(part, ast.AugAssign) and not is_counting(part):
            yield part.lineno
        if isinstance(part, (ast.Attribute, ast.Subscript)) and not isinstance(part.ctx, ast.Load):
            if root_of(part) not in own:
                yield part.lineno
        if isinstance(part, ast.Call) and getattr(part.func, "attr", "") in CHANGING:
            if root_of(part.func) not in own:
                yield part.lineno
        if isinstance(part, ast.Call) and getattr(part.func, "id", "") in given_names(function):
            yield part.lineno


class Package:
    """The functions and methods of a package, by their names."""

    def __init__(self, trees):
        self.named = {}
        self.quiet = []
        for module, tree in trees.items():
            for node in ast.walk(tree):
                if isinstance(node, ast.FunctionDef):
                    self.named.setdefault(node.name, []).append((module, node))
                if isinstance(node, ast.ClassDef):
                    made = [part for part in node.body if isinstance(part, ast.FunctionDef)]
                    self.quiet.extend((module, part) for part in made if is_quiet(part))
                    self.named.setdefault(node.name, []).extend(
                        (module, part) for part in made if part.name == "__init__"
                    )

    def called_from(self, function):
        """The functions and methods that may be called from one."""
        for part in ast.walk(function):
            if isinstance(part, ast.Call):
                name = getattr(part.func, "attr", getattr(part.func, "id", ""))
                yield from self.named.get(name, ())

    def reached(self, start):
        """All that may run when this function does."""
        found, fresh = [start], [start]
        while fresh:
            _, function = fresh.pop()
            for pair in self.called_from(function):
                if pair not in found:
                    found.append(pair)
                    fresh.append(pair)
        return found


def alike(function):
    """The groups of names that a function makes mean the same value: `a = b`, `a = b = ..`."""
    groups = []
    for part in ast.walk(function):
        if isinstance(part, ast.Assign):
            names = {node.id for node in (*part.targets, part.value) if isinstance(node, ast.Name)}
            for group in [group for group in groups if group & names]:
                groups.remove(group)
                names |= group
            groups.append(names)
    return groups


def path_of(node):
    """The name or attribute to which something belongs, such as `self.rows`; its items belong to it."""
    while isinstance(node, ast.Subscript):
        node = node.value
    if isinstance(node, ast.Attribute):
        return f"{path_of(node.value)}.{node.attr}"
    return node.id if isinstance(node, ast.Name) else ""


def changed_names(node):
    """The names and attributes whose values something within changes."""
    for part in ast.walk(node):
        if isinstance(part, ast.AugAssign):
            yield path_of(part.target)
        if isinstance(part, ast.Call) and getattr(part.func, "attr", "") in CHANGING:
            yield path_of(part.func.value)
        if isinstance(part, ast.Subscript) and not isinstance(part.ctx, ast.Load):
            yield path_of(part)


def names_walked(node):
    """The names and attributes that a loop goes through."""
    called = node.iter
    values = [called]
    if isinstance(called, ast.Call):
        values = [*called.args, *[part.value for part in [called.func] if isinstance(part, ast.Attribute)]]
    return {path_of(value) for value in values} - {""}


def loop_problems(function):
    """The lines in which a loop goes through what it changes, or a sign changes what it takes."""
    groups = alike(function)

    def meant(names):
        return set(names).union(*[group for group in groups if group & set(names)])

    for part in ast.walk(function):
        if isinstance(part, ast.For) and isinstance(part.iter, (ast.Name, ast.Call)):
            copied = isinstance(part.iter, ast.Call) and getattr(part.iter.func, "id", "") in ("range", *MAKERS)
            changed = {name for row in part.body for name in changed_names(row)}
            if not copied and meant(names_walked(part)) & changed:
                yield part.lineno
        if isinstance(part, ast.AugAssign) and isinstance(part.value, ast.Name):
            if part.value.id in meant([path_of(part.target)]):
                yield part.lineno


def stored_names(tree):
    """The names of the attributes that something in a file assigns."""
    return {
        part.attr for part in ast.walk(tree) if isinstance(part, ast.Attribute) and not isinstance(part.ctx, ast.Load)
    }


def name_problems(trees, package):
    """What is the name of a method and of an attribute: whoever tells them apart by names alone cannot."""
    stored = set().union(*[stored_names(tree) for tree in trees.values()])
    for name, pairs in package.named.items():
        if name in stored:
            for module, function in pairs:
                yield f"{module}:{function.lineno}: L18 attribute and method {name}"


def flow_problems(texts):
    """What is wrong with a package, as texts; texts has that of each of its modules."""
    trees = {module: ast.parse(text) for module, text in texts.items()}
    package = Package(trees)
    found = {}
    for home, start in package.quiet:
        for module, function in package.reached((home, start)):
            for line in changes_in(function):
                found[f"{module}:{line}: L5 or L28 {start.name} changes"] = True
    for pairs in package.named.values():
        for module, function in pairs:
            for line in loop_problems(function):
                found[f"{module}:{line}: L23 walked and changed"] = True
    return sorted([*found, *name_problems(trees, package)])

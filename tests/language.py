"""Reads the files of the package and lists where they break rules of LANGUAGE.md.

Only what a reader of single files can tell for sure is looked at; each rule is told by its number.
"""

import ast
import builtins

BUILTINS = set(
    """len range enumerate zip min max sum abs sorted reversed int str bool bytes list tuple dict set frozenset
    isinstance ord repr any all divmod pow getattr hasattr setattr Exception ValueError TypeError KeyError IndexError
    LookupError ZeroDivisionError ArithmeticError OverflowError RuntimeError NotImplementedError AttributeError
    StopIteration NotImplemented iter next type map""".split()
)
LIBRARY = {
    "heapq": "heappush heappop heapify heapreplace heappushpop",
    "math": "gcd lcm isqrt comb perm factorial",
    # No products: a cutting is iterated over and has a length.
    "itertools": "chain accumulate pairwise islice zip_longest",
    "collections": "defaultdict deque",
    "__future__": "annotations",
}
METHODS = set(
    """append clear copy count endswith extend find get index insert isalnum isalpha isdigit islower isspace isupper
    items join keys ljust lower lstrip partition pop remove replace reverse rfind rjust rpartition rsplit rstrip
    setdefault split splitlines startswith strip update upper values zfill bit_length title capitalize swapcase
    casefold center expandtabs removeprefix removesuffix rindex isascii isdecimal isnumeric istitle isidentifier
    isprintable encode decode hex translate maketrans format add discard appendleft popleft extendleft
    rotate from_iterable from_bytes""".split()
)
SPECIAL = set(
    """init eq repr str len enter exit call iter lt le gt ge ne add sub mul floordiv mod pow and or xor lshift rshift
    radd rsub rmul rfloordiv rmod rand ror rxor rlshift rrshift iadd isub imul ifloordiv imod ipow iand ior ixor
    ilshift irshift neg pos invert abs bool contains getitem setitem""".split()
)
UNUSED = set("register mro elements open input law version_info with_traceback add_note".split())
WORDS = set(
    """typing typing_extensions enum Enum IntEnum StrEnum Flag IntFlag Generic Protocol ABC ABCMeta namedtuple
    NamedTuple TypedDict TYPE_CHECKING abstractmethod""".split()
)
FORBIDDEN = {
    ast.AsyncFunctionDef: "L6",
    ast.AsyncFor: "L6",
    ast.AsyncWith: "L6",
    ast.Await: "L6",
    ast.Import: "L2",
    ast.Div: "L7",
    ast.MatMult: "L7",
}
DEFINED = (ast.FunctionDef, ast.ClassDef)
# What these do to objects that they did not create cannot be seen, so they are to change nothing at all.
QUIET = {f"__{name}__" for name in "eq repr str len contains getitem lt le gt ge ne bool add sub mul and or".split()}
CHANGING = set("append clear extend insert pop remove reverse setdefault update sort add discard".split())
WHOLE = {"any", "all", "min", "max", "sum", "sorted"}


def text_problems(text):
    """What is wrong with the lines of a file."""
    lines = text.split("\n")
    for at, line in enumerate(lines, start=1):
        if len(line) > 120:
            yield at, "L10 long line"
        if not all(" " <= sign <= "~" for sign in line):
            yield at, "L14 character"
    if len(lines) > 400:
        yield len(lines), "L10 long file"


def is_plain(node):
    """Whether an expression at module level is a plain value."""
    allowed = (ast.Constant, ast.List, ast.Tuple, ast.Dict, ast.Name, ast.BinOp, ast.UnaryOp, ast.operator)
    return all(isinstance(part, (*allowed, ast.unaryop, ast.expr_context)) for part in ast.walk(node))


def module_problems(tree):
    """What is wrong at module level."""
    bound = []
    for node in tree.body:
        if isinstance(node, DEFINED):
            bound.append(node.name)
        elif isinstance(node, ast.ImportFrom):
            bound.extend(name.asname or name.name for name in node.names)
        elif isinstance(node, ast.Assign) and len(node.targets) == 1 and isinstance(node.targets[0], ast.Name):
            bound.append(node.targets[0].id)
            if not is_plain(node.value):
                yield node.lineno, "L3 value"
        elif not (isinstance(node, ast.Expr) and isinstance(node.value, ast.Constant)):
            yield node.lineno, "L3 statement"
    if len(set(bound)) < len(bound):
        yield 1, "L15 bound twice"


def import_problems(node, defined):
    """What is wrong with an import; defined has the names that each module of the package defines."""
    allowed = LIBRARY[node.module].split() if node.module in LIBRARY else defined.get(node.module, ())
    if node.level or any(name.name not in allowed for name in node.names):
        yield node.lineno, "L2 or L16 import"


def definition_problems(node):
    """What is wrong with the head or size of a function or class."""
    if node.end_lineno - node.lineno >= 40 and isinstance(node, ast.FunctionDef):
        yield node.lineno, "L10 long function"
    for decorator in node.decorator_list:
        name = decorator.attr if isinstance(decorator, ast.Attribute) else getattr(decorator, "id", "")
        if isinstance(node, ast.ClassDef) or name not in ("property", "setter", "staticmethod", "classmethod"):
            yield node.lineno, "L4 decorator"
    if node.name.startswith("__") and node.name[2:-2] not in SPECIAL:
        yield node.lineno, "L5 method"


def class_problems(node):
    """What is wrong with the methods of a class, each looked at beside the others."""
    methods = {part.name: part for part in node.body if isinstance(part, ast.FunctionDef)}
    if len(methods) < len([part for part in node.body if isinstance(part, ast.FunctionDef)]):
        yield node.lineno, "L18 defined twice"
    if "__getitem__" in methods and "__iter__" not in methods:
        yield node.lineno, "L5 getitem without iter"
    for name, method in methods.items():
        if name in QUIET:
            yield from quiet_problems(method)
    if "__len__" in methods:
        for part in ast.walk(methods["__len__"]):
            if isinstance(part, ast.Return) and not is_length(part.value):
                yield part.lineno, "L28 len"


def is_length(node):
    """Whether an expression is `len(..)` or a literal."""
    return isinstance(node, ast.Constant) or isinstance(node, ast.Call) and getattr(node.func, "id", "") == "len"


def quiet_problems(method):
    """What changes something in a method that should change nothing."""
    for part in ast.walk(method):
        if isinstance(part, (ast.AugAssign, ast.Delete)):
            yield part.lineno, "L5 or L28 changes"
        if isinstance(part, (ast.Attribute, ast.Subscript)) and not isinstance(part.ctx, ast.Load):
            yield part.lineno, "L5 or L28 changes"
        if isinstance(part, ast.Call) and getattr(part.func, "attr", "") in CHANGING:
            yield part.lineno, "L5 or L28 changes"


def set_problems(node):
    """What is wrong with what is gone through: a set has no order."""
    if isinstance(node.iter, (ast.Set, ast.SetComp)) or getattr(getattr(node.iter, "func", None), "id", "") == "set":
        yield node.iter.lineno, "L24 set"


def bound_names(node):
    """The names that a node gives a meaning, but for attributes and methods."""
    if isinstance(node, ast.Name) and not isinstance(node.ctx, ast.Load):
        yield node.id
    elif isinstance(node, ast.arg):
        yield node.arg
    elif isinstance(node, (*DEFINED, ast.ExceptHandler)) and node.name and not node.name.startswith("__"):
        yield node.name


def call_problems(node, own):
    """What is wrong with a call."""
    called = node.func
    if isinstance(called, ast.Attribute) and called.attr not in METHODS | own and not called.attr.startswith("__"):
        yield node.lineno, "L25 method " + called.attr
    if isinstance(called, ast.Name) and called.id == "reversed":
        if not isinstance(node.args[0], ast.Call) or getattr(node.args[0].func, "id", "") != "range":
            yield node.lineno, "L5 reversed"
    takes_generator = any(isinstance(argument, ast.GeneratorExp) for argument in node.args)
    if takes_generator and isinstance(called, ast.Name) and called.id in WHOLE:
        yield node.lineno, "L7 generator expression"


def comparison_problems(node):
    """What is wrong with an `is`."""
    for sign, right in zip(node.ops, node.comparators, strict=True):
        if isinstance(sign, (ast.Is, ast.IsNot)) and not isinstance(right, ast.Constant):
            left = node.left
            if not (isinstance(left, ast.Call) and getattr(left.func, "id", "") == "type"):
                yield node.lineno, "L20 is"


def handler_problems(node):
    """What is wrong with a handler."""
    caught = node.type.elts if isinstance(node.type, ast.Tuple) else [node.type]
    free = ("KeyError", "ZeroDivisionError", "StopIteration", "ValueError", "LookupError", "IndexError")
    for error in caught:
        if not isinstance(error, ast.Name) or error.id in vars(builtins) and error.id not in free:
            yield node.lineno, "L19 handler"


def value_problems(node):
    """What is wrong with a literal."""
    if isinstance(node.value, (float, complex)):
        yield node.lineno, "L7 number"
    if isinstance(node.value, str) and (chr(37) in node.value or WORDS & set(node.value.split())):
        yield node.lineno, "L27 or L17 text"


def name_problems(node):
    """What is wrong with the use of a name, or with one that is bound."""
    if isinstance(node, ast.Name) and node.id in vars(builtins) and node.id not in BUILTINS:
        if node.id not in ("property", "staticmethod", "classmethod", "super"):
            yield node.lineno, "L8 builtin " + node.id
    for name in bound_names(node):
        if name in vars(builtins) or name in UNUSED | WORDS or not name.isascii():
            yield node.lineno, "L15 or L17 name " + name
    if isinstance(node, ast.Attribute) and (node.attr in UNUSED or node.attr in ("format_map", "args")):
        yield node.lineno, "L17 attribute " + node.attr


def node_problems(node, defined, own):
    """What is wrong with one node of a tree."""
    if type(node) in FORBIDDEN:
        yield getattr(node, "lineno", 0), FORBIDDEN[type(node)]
    yield from name_problems(node)
    if isinstance(node, DEFINED):
        yield from definition_problems(node)
        yield from class_problems(node) if isinstance(node, ast.ClassDef) else ()
    elif isinstance(node, (ast.For, ast.comprehension)):
        yield from set_problems(node)
    elif isinstance(node, ast.ImportFrom):
        yield from import_problems(node, defined)
    elif isinstance(node, ast.Call):
        yield from call_problems(node, own)
    elif isinstance(node, ast.Compare):
        yield from comparison_problems(node)
    elif isinstance(node, ast.ExceptHandler):
        yield from handler_problems(node)
    elif isinstance(node, ast.Constant):
        yield from value_problems(node)


def own_methods(trees):
    """The names of all methods of the package."""
    classes = [node for tree in trees for node in ast.walk(tree) if isinstance(node, ast.ClassDef)]
    return {part.name for node in classes for part in node.body if isinstance(part, ast.FunctionDef)}


def import_rings(trees):
    """The modules of the package that import themselves through others."""
    wanted = {
        module: {node.module for node in tree.body if isinstance(node, ast.ImportFrom) and node.module in trees}
        for module, tree in trees.items()
    }
    for _ in trees:
        wanted = {module: names.union(*(wanted[name] for name in names)) for module, names in wanted.items()}
    return [module for module, names in wanted.items() if module in names]


def problems(texts):
    """What is wrong with a package, as texts; texts has that of each of its modules."""
    trees = {module: ast.parse(text) for module, text in texts.items()}
    defined = {
        module: {node.name for node in tree.body if isinstance(node, DEFINED)}
        | {target.id for node in tree.body if isinstance(node, ast.Assign) for target in node.targets}
        for module, tree in trees.items()
    }
    own = own_methods(trees.values())
    found = [f"{module}: L16 imports itself" for module in import_rings(trees)]
    for module, tree in trees.items():
        told = list(text_problems(texts[module])) + list(module_problems(tree))
        for node in ast.walk(tree):
            told.extend(node_problems(node, defined, own))
        found.extend(f"{module}:{line}: {what}" for line, what in told)
    return found

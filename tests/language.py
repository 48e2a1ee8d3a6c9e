"""The rules of LANGUAGE.md that a look at the parsed code can check.

Each fault is told as a text that begins with the number of its rule. What is not
looked at here still holds: this is a net below the rules, not the rules.
"""

import ast
import re

PACKAGE = "bendfronts"
BUILTINS = set("""
len range enumerate zip min max sum abs sorted reversed int str bool bytes list tuple dict set frozenset isinstance
ord repr any all divmod Exception ValueError TypeError KeyError IndexError LookupError ZeroDivisionError
ArithmeticError OverflowError RuntimeError NotImplementedError AttributeError StopIteration
""".split())
METHODS = set("""
append clear copy count endswith extend find get index insert isalnum isalpha isdigit islower isspace isupper items
join keys ljust lower lstrip partition pop remove replace reverse rfind rjust rpartition rsplit rstrip setdefault
split splitlines startswith strip update upper values zfill bit_length title capitalize swapcase casefold center
expandtabs removeprefix removesuffix rindex isascii isdecimal isnumeric istitle isidentifier isprintable translate
sort add discard encode decode hex fromhex to_bytes from_bytes maketrans
""".split())
DOUBLE = {"__init__", "__eq__", "__repr__", "__str__", "__len__"}
STATEMENTS = (
    ast.Assign, ast.AugAssign, ast.AnnAssign, ast.If, ast.While, ast.For, ast.Return, ast.Break, ast.Continue,
    ast.Pass, ast.Raise, ast.Assert, ast.Delete, ast.Try, ast.Expr, ast.FunctionDef, ast.ClassDef, ast.ImportFrom,
)
BARRED_EXPRESSIONS = (
    ast.GeneratorExp, ast.NamedExpr, ast.Yield, ast.YieldFrom, ast.Await, ast.Div, ast.MatMult,
)
BARRED_WORDS = re.compile(
    r"\b(type|typing|typing_extensions|enum|Enum|IntEnum|StrEnum|Flag|IntFlag|Generic|Protocol|ABC|ABCMeta|namedtuple"
    r"|NamedTuple|TypedDict|TYPE_CHECKING|abstractmethod)\b|dataclass|overload|contextmanager"
)
BARRED_NAMES = set("""
register mro elements open input version_info with_traceback add_note attrgetter breakpoint builtins compile copyright
credits delattr dir eval exec exit gc getattr globals hasattr help id importlib license locals methodcaller os quit
setattr super vars sys chr format hash map next round filter iter object print property slice callable pow float
""".split())


def names_bound(tree):
    """All names that code binds: by targets, parameters, functions, classes, imports and handlers."""
    found = []
    for node in ast.walk(tree):
        if isinstance(node, ast.Name) and not isinstance(node.ctx, ast.Load):
            found.append(node.id)
        elif isinstance(node, ast.arg):
            found.append(node.arg)
        elif isinstance(node, (ast.FunctionDef, ast.ClassDef, ast.ExceptHandler)):
            found.append(node.name)
        elif isinstance(node, ast.alias):
            found.append(node.asname or node.name)
    return [name for name in found if name]


def text_faults(text):
    found = []
    for at, line in enumerate(text.split("\n"), start=1):
        if len(line) > 120:
            found.append(f"L10 line {at} is too long")
        if not all(" " <= sign <= "~" for sign in line):
            found.append(f"L14 line {at} has a sign that is not allowed")
        if BARRED_WORDS.search(line):
            found.append(f"L17 line {at} has a barred word")
    if text.count("\n") > 400:
        found.append("L10 the file is too long")
    return found


def import_faults(tree, defined):
    found = []
    for node in ast.walk(tree):
        if isinstance(node, ast.Import):
            found.append("L16 an import that is not `from .. import ..`")
        if isinstance(node, ast.ImportFrom):
            if node not in tree.body or node.level or node.module not in defined:
                found.append(f"L2 import from {node.module}")
            else:
                missing = [one.name for one in node.names if one.name not in defined[node.module]]
                found += [f"L16 {name} is not defined in {node.module}" for name in missing]
    return found


def is_plain(node, functions):
    """Whether a module-level value is plain: literals, and tables of these and of functions defined above."""
    if isinstance(node, ast.Constant):
        return not isinstance(node.value, (float, complex)) and node.value is not ...
    if isinstance(node, (ast.List, ast.Tuple)):
        return all(is_plain(one, functions) for one in node.elts)
    if isinstance(node, ast.Dict):
        return all(is_plain(one, functions) for one in node.keys + node.values)
    if isinstance(node, ast.UnaryOp):
        return is_plain(node.operand, functions)
    if isinstance(node, ast.BinOp):
        return is_plain(node.left, functions) and is_plain(node.right, functions)
    return isinstance(node, ast.Name) and node.id in functions


def module_faults(tree):
    found, bound = [], []
    for node in tree.body:
        if isinstance(node, (ast.FunctionDef, ast.ClassDef)):
            bound.append(node.name)
        elif isinstance(node, ast.ImportFrom):
            bound += [one.asname or one.name for one in node.names]
        elif isinstance(node, ast.Assign) and len(node.targets) == 1 and isinstance(node.targets[0], ast.Name):
            if not is_plain(node.value, bound):
                found.append(f"L3 line {node.lineno}: a value that is not plain")
            if isinstance(node.value, (ast.List, ast.Dict)) and any(
                isinstance(one, (ast.List, ast.Dict)) for one in ast.walk(node.value) if one is not node.value
            ):
                found.append(f"L15 line {node.lineno}: a list or dict within another")
            bound.append(node.targets[0].id)
        elif not (isinstance(node, ast.Expr) and isinstance(node.value, ast.Constant)):
            found.append(f"L3 line {node.lineno}: {node.__class__.__name__} at module level")
    found += [f"L15 {name} is bound twice" for name in sorted(set(bound)) if bound.count(name) > 1]
    return found


def function_faults(node):
    found = []
    if node.end_lineno - node.lineno + 1 > 40:
        found.append(f"L10 {node.name} is too long")
    if node.decorator_list or node.args.vararg or node.args.kwarg or node.args.posonlyargs:
        found.append(f"L4 {node.name}: a decorator, *, ** or /")
    return found


def class_faults(node):
    found = []
    if node.decorator_list or node.keywords or len(node.bases) > 1:
        found.append(f"L5 {node.name}: a decorator, a keyword or two bases")
    for one in node.body:
        if isinstance(one, ast.FunctionDef):
            if one.name.startswith("__") and one.name not in DOUBLE:
                found.append(f"L5 {node.name}.{one.name}")
        elif not (isinstance(one, ast.Expr) and isinstance(one.value, ast.Constant)):
            found.append(f"L5 {node.name}: a value in the class body")
    return found


def expression_faults(node):
    if isinstance(node, BARRED_EXPRESSIONS):
        return ["L7 " + node.__class__.__name__]
    if isinstance(node, ast.Starred) and isinstance(node.ctx, ast.Load):
        return ["L7 a star"]
    if isinstance(node, ast.Constant) and isinstance(node.value, (float, complex)):
        return ["L7 a float"]
    if isinstance(node, ast.Constant) and isinstance(node.value, str) and "%" in node.value:
        return ["L27 a percent sign in a string"]
    if isinstance(node, ast.FormattedValue) and node.format_spec is not None:
        return ["L7 a format in an f-string"]
    if isinstance(node, ast.BinOp) and isinstance(node.op, ast.Pow) and not isinstance(node.right, ast.Constant):
        return ["L27 a power with an exponent that is not literal"]
    if isinstance(node, ast.Compare):
        for op, right in zip(node.ops, node.comparators):
            if isinstance(op, (ast.Is, ast.IsNot)) and not (
                isinstance(right, ast.Constant) and (right.value is None or isinstance(right.value, bool))
            ):
                return ["L20 `is` of another thing"]
    return []


def statement_faults(node):
    if isinstance(node, ast.stmt) and not isinstance(node, STATEMENTS):
        return ["L6 " + node.__class__.__name__]
    if isinstance(node, (ast.For, ast.While)) and node.orelse:
        return ["L6 else behind a loop"]
    if isinstance(node, ast.Expr) and not isinstance(node.value, (ast.Call, ast.Constant)):
        return ["L6 an expression on its own"]
    if isinstance(node, ast.ExceptHandler):
        caught = node.type.elts if isinstance(node.type, ast.Tuple) else [node.type]
        if not caught or any(getattr(one, "id", "Exception") in ("Exception", "TypeError") for one in caught):
            return ["L19 a handler without a name, of Exception or of TypeError"]
    if isinstance(node, ast.Raise) and node.exc is not None and not (
        isinstance(node.exc, ast.Call) and isinstance(node.exc.func, ast.Name)
    ):
        return ["L19 an error that is not created on the spot"]
    return []


def name_faults(tree):
    found = []
    bound = names_bound(tree)
    for name in bound:
        if name in BUILTINS or name in BARRED_NAMES:
            found.append(f"L15 {name} is given another meaning")
        if not re.fullmatch(r"[A-Za-z][A-Za-z0-9_]*", name) and name not in DOUBLE:
            found.append(f"L12 {name}")
    for node in ast.walk(tree):
        if isinstance(node, ast.Name) and node.id not in BUILTINS and node.id not in bound:
            found.append(f"L8 {node.id} is not known here")
    return found


def shadow_faults(tree):
    """Parameters, variables and nested functions that have the name of a class or an import of their file."""
    taken = [node.name for node in tree.body if isinstance(node, ast.ClassDef)]
    for node in tree.body:
        if isinstance(node, ast.ImportFrom):
            taken += [one.asname or one.name for one in node.names]
    bound = []
    for node in tree.body:
        if isinstance(node, (ast.FunctionDef, ast.ClassDef)):
            inner = names_bound(node)
            inner.remove(node.name)
            bound += inner
    return [f"L15 {name} is a class or an import" for name in sorted(set(bound)) if name in taken]


def attribute_faults(trees):
    """Names that are a method in one class and an attribute in another, and attributes that no class assigns."""
    methods, found = own_methods(trees), []
    nodes = [node for tree in trees for node in ast.walk(tree) if isinstance(node, ast.Attribute)]
    calls = [node.func for tree in trees for node in ast.walk(tree) if isinstance(node, ast.Call)]
    assigned = {node.attr for node in nodes if isinstance(node.ctx, ast.Store)}
    found += [f"L18 {name} is a method and an attribute" for name in sorted(assigned) if name in methods]
    for node in nodes:
        if isinstance(node.ctx, ast.Load) and node not in calls and node.attr not in assigned:
            found.append(f"L18 .{node.attr} is assigned by no class")
    return found


def count_faults(tree, functions):
    """Calls of own functions, by their names, that pass more or less than these take."""
    found = []
    for node in ast.walk(tree):
        if isinstance(node, ast.Call) and isinstance(node.func, ast.Name) and node.func.id in functions:
            takes = functions[node.func.id].args
            many = len(node.args) + len(node.keywords)
            if not len(takes.args) - len(takes.defaults) <= many <= len(takes.args):
                found.append(f"L22 line {node.lineno}: {node.func.id}")
    return found


def call_faults(tree, own):
    """Calls of methods that are neither allowed ones of builtin values nor own ones."""
    found = []
    for node in ast.walk(tree):
        if isinstance(node, ast.Call) and isinstance(node.func, ast.Attribute):
            if node.func.attr not in METHODS | DOUBLE and node.func.attr not in own:
                found.append(f"L25 .{node.func.attr}()")
    return found


def defined_in(tree):
    """The names that a file itself binds at module level."""
    found = []
    for node in tree.body:
        if isinstance(node, (ast.FunctionDef, ast.ClassDef)):
            found.append(node.name)
        elif isinstance(node, ast.Assign):
            found += [one.id for one in node.targets if isinstance(one, ast.Name)]
    return found


def own_methods(trees):
    """The names of all methods of the classes of the package."""
    classes = [node for tree in trees for node in ast.walk(tree) if isinstance(node, ast.ClassDef)]
    return [one.name for node in classes for one in node.body if isinstance(one, ast.FunctionDef)]


def cycle_faults(trees):
    """Files that import from each other, directly or through others."""
    reach = {
        module: {node.module for node in tree.body if isinstance(node, ast.ImportFrom)}
        for module, tree in trees.items()
    }
    for through in trees:
        for module in trees:
            if through in reach[module]:
                reach[module] |= reach[through]
    return [f"L16 {module} imports itself through others" for module in trees if module in reach[module]]


def package_faults(files):
    """All faults of a package that is told as its modules' full names and their texts."""
    trees = {module: ast.parse(text) for module, text in files.items()}
    defined = {module: defined_in(tree) for module, tree in trees.items()}
    own = own_methods(trees.values())
    functions = {
        node.name: node for tree in trees.values() for node in tree.body if isinstance(node, ast.FunctionDef)
    }
    found = cycle_faults(trees) + ["package: " + fault for fault in attribute_faults(list(trees.values()))]
    for module, tree in trees.items():
        faults = text_faults(files[module]) + import_faults(tree, defined) + module_faults(tree)
        faults += name_faults(tree) + call_faults(tree, own) + shadow_faults(tree) + count_faults(tree, functions)
        for node in ast.walk(tree):
            faults += expression_faults(node) + statement_faults(node)
            if isinstance(node, ast.FunctionDef):
                faults += function_faults(node)
            if isinstance(node, ast.ClassDef):
                faults += class_faults(node)
        found += [f"{module}: {fault}" for fault in faults]
    return found

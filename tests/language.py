"""Tells what in a package's files lies outside the rules L1 to L28 of LANGUAGE.md.

Where a rule leaves room that the program doesn't need (annotations, several names in one target), it is held narrowly.
"""

import ast
import builtins
import re

CALLED = tuple(
    "len range enumerate zip min max sum abs sorted reversed isinstance ord repr any all divmod".split()
)
KINDS = ("int", "str", "bool", "list", "tuple", "dict", "set", "frozenset")
ERRORS = tuple(
    "Exception ValueError TypeError KeyError IndexError LookupError ZeroDivisionError ArithmeticError "
    "OverflowError RuntimeError NotImplementedError AttributeError StopIteration".split()
)
OWN_NAMES = dir(builtins)
DOUBLE = ("__init__", "__eq__", "__repr__", "__str__", "__len__")
METHODS = tuple(
    "append clear copy count endswith extend find get index insert isalnum isalpha isdigit islower isspace isupper "
    "items join keys ljust lower lstrip partition pop remove replace reverse rfind rjust rpartition rsplit rstrip "
    "setdefault split splitlines startswith strip update upper values zfill bit_length".split()
)
CHANGING = ("append", "clear", "extend", "insert", "pop", "remove", "reverse", "setdefault", "update")
FREE_VALUES = ("count", "index", "title", "find", "get", "join", "lower", "upper", "split", "strip", "copy", "add")
TAKEN = {name for kind in (str, int, list, tuple, dict, set, bytes) for name in dir(kind)} | {"args", "format"}
UNUSED = ("register", "mro", "elements", "open", "input", "version_info", "with_traceback", "add_note")
UNUSED_NAMES = tuple(
    "attrgetter breakpoint builtins compile copyright credits delattr dir eval exec exit gc getattr globals hasattr "
    "help id importlib license locals methodcaller os quit setattr super type vars sys __name__".split()
)
FRAMES = re.compile(r"(f|tb|co|gi|cr|ag)_[a-z]+")
WORDS = re.compile(
    r"\b(type|typing|typing_extensions|enum|Enum|IntEnum|StrEnum|Flag|IntFlag|Generic|Protocol|ABC|ABCMeta|namedtuple|"
    r"NamedTuple|TypedDict|TYPE_CHECKING|abstractmethod)\b|dataclass|overload|contextmanager"
)
NO_FILES = re.compile(r"test|tests|testing|test_.*|site|conftest|sitecustomize|usercustomize|enum|typing|types")
STATEMENTS = (
    ast.Module, ast.FunctionDef, ast.ClassDef, ast.Return, ast.Assign, ast.AugAssign, ast.For, ast.While, ast.If,
    ast.Raise, ast.Try, ast.ExceptHandler, ast.Expr, ast.Pass, ast.Break, ast.Continue, ast.ImportFrom,
)
EXPRESSIONS = (
    ast.BoolOp, ast.BinOp, ast.UnaryOp, ast.Lambda, ast.IfExp, ast.Dict, ast.Set, ast.ListComp, ast.comprehension,
    ast.Compare, ast.Call, ast.FormattedValue, ast.JoinedStr, ast.Constant, ast.Attribute, ast.Subscript, ast.Name,
    ast.List, ast.Tuple, ast.Slice, ast.arguments, ast.arg, ast.keyword, ast.alias, ast.expr_context, ast.boolop,
    ast.operator, ast.unaryop, ast.cmpop,
)
KEYWORDS = {
    "sorted": ("key", "reverse"), "min": ("key", "default"), "max": ("key", "default"), "sum": ("start",),
    "enumerate": ("start",), "zip": ("strict",),
}
WALKED = ("zip", "enumerate", "reversed", "range")
WALKERS = ("list", "tuple", "dict", "sorted", "sum", "any", "all", "enumerate", "zip", "min", "max")


class Source:
    """One file: its tree, who stands above whom, and what its top binds."""

    def __init__(self, name, text):
        self.name = name
        self.text = text
        self.tree = ast.parse(text)
        self.nodes = list(ast.walk(self.tree))
        self.parents = {child: node for node in self.nodes for child in ast.iter_child_nodes(node)}
        self.defs = [node.name for node in self.tree.body if isinstance(node, ast.FunctionDef)]
        self.classes = [node.name for node in self.nodes if isinstance(node, ast.ClassDef)]
        self.imports = [
            alias.name for node in self.nodes if isinstance(node, ast.ImportFrom) for alias in node.names
        ]
        self.values = {
            node.targets[0].id: node.value for node in self.tree.body
            if isinstance(node, ast.Assign) and isinstance(node.targets[0], ast.Name)
        }

    def of(self, *kinds):
        return [node for node in self.nodes if isinstance(node, kinds)]

    def above(self, node):
        return self.parents.get(node)


def is_call_of(node, names):
    return isinstance(node, ast.Call) and isinstance(node.func, ast.Name) and node.func.id in names


def is_docstring(node):
    return isinstance(node, ast.Expr) and isinstance(node.value, ast.Constant) and isinstance(node.value.value, str)


def text_faults(source):
    stem = source.name[:-3]
    if not re.fullmatch(r"[A-Za-z0-9_]+\.py", source.name):
        yield "L1", 0
    if source.name != source.name.lower() or NO_FILES.fullmatch(stem) or stem in OWN_NAMES:
        yield "L14", 0
    rows = source.text.split("\n")
    if len(rows) > 401:
        yield "L10", len(rows)
    for number, row in enumerate(rows, start=1):
        if len(row) > 120 or "\t" in row:
            yield "L10", number
        if not all(" " <= sign <= "~" for sign in row):
            yield "L14", number
        if WORDS.search(row):
            yield "L17", number


def is_plain(node, above):
    if isinstance(node, ast.Constant):
        return node.value is None or type(node.value) in (int, str, bool)
    if isinstance(node, ast.UnaryOp):
        return isinstance(node.op, ast.USub) and is_plain(node.operand, above)
    if isinstance(node, ast.Name):
        return node.id in above
    if isinstance(node, (ast.List, ast.Tuple)):
        return all(is_plain(one, above) for one in node.elts)
    if isinstance(node, ast.Dict):
        return all(one is not None and is_plain(one, above) for one in node.keys + node.values)
    return False


def top_faults(source):
    bound = []
    for place, node in enumerate(source.tree.body):
        if isinstance(node, ast.ImportFrom):
            bound.extend(alias.name for alias in node.names)
        elif isinstance(node, (ast.FunctionDef, ast.ClassDef)):
            bound.append(node.name)
        elif isinstance(node, ast.Assign) and isinstance(node.targets[0], ast.Name):
            if not is_plain(node.value, [name for name in bound if name in source.defs]):
                yield "L3", node.lineno
            bound.append(node.targets[0].id)
        elif not (place == 0 and is_docstring(node)):
            yield "L3", node.lineno
    for name in bound:
        if bound.count(name) > 1:
            yield "L15", 0
    for name, value in source.values.items():
        inner = [node for node in ast.walk(value) if isinstance(node, (ast.List, ast.Dict)) and node is not value]
        if isinstance(value, (ast.List, ast.Dict)) and inner:
            yield "L15", value.lineno


def kept_at_top_faults(source):
    """Lists and dicts of the top: only read."""
    kept = [name for name, value in source.values.items() if isinstance(value, (ast.List, ast.Dict))]
    for node in source.of(ast.Name):
        if node.id not in kept or source.above(node) in source.tree.body:
            continue
        over = source.above(node)
        read = isinstance(over, (ast.Compare, ast.For, ast.comprehension))
        read = read or (isinstance(over, ast.Subscript) and isinstance(over.ctx, ast.Load))
        read = read or is_call_of(over, CALLED + KINDS)
        read = read or (isinstance(over, ast.Attribute) and over.attr in METHODS and over.attr not in CHANGING)
        if not read:
            yield "L15", node.lineno


def import_faults(source, sources, package):
    begun = False
    for node in source.tree.body:
        if isinstance(node, ast.ImportFrom):
            if begun:
                yield "L2", node.lineno
        elif not is_docstring(node):
            begun = True
    for node in source.of(ast.Import, ast.ImportFrom):
        module = getattr(node, "module", None) or ""
        from_file = sources.get(module[len(package) + 1:] + ".py")
        if source.above(node) is not source.tree or isinstance(node, ast.Import) or node.level:
            yield "L2", node.lineno
        elif not module.startswith(package + ".") or from_file is None:
            yield "L2", node.lineno
        else:
            for alias in node.names:
                if alias.asname or alias.name == "*":
                    yield "L2", node.lineno
                elif alias.name not in from_file.defs + from_file.classes + list(from_file.values):
                    yield "L16", node.lineno


def drawn_from(source, sources, package):
    names = [node.module[len(package) + 1:] + ".py" for node in source.of(ast.ImportFrom) if node.module]
    return ["__init__.py"] * (source.name != "__init__.py") + [name for name in names if name in sources]


def package_name_faults(sources):
    """The package's own file binds no name that one of its files has."""
    own = sources.get("__init__.py")
    bound = own.defs + own.classes + own.imports + list(own.values) if own else []
    for name in bound:
        if name + ".py" in sources:
            yield "L16", "__init__.py", 0


def circle_faults(sources, package):
    for name in sources:
        seen = []
        waiting = drawn_from(sources[name], sources, package)
        while waiting:
            other = waiting.pop()
            if other not in seen and other in sources:
                seen.append(other)
                waiting.extend(drawn_from(sources[other], sources, package))
        if name in seen:
            yield "L16", name, 0


def def_faults(source):
    for node in source.of(ast.FunctionDef, ast.Lambda):
        names = node.args
        if names.vararg or names.kwarg or names.kwonlyargs or names.posonlyargs:
            yield "L4", node.lineno
        if not all(is_plain(value, []) and not isinstance(value, (ast.List, ast.Dict)) for value in names.defaults):
            yield "L4", node.lineno
        if any(one.annotation for one in names.args) or getattr(node, "returns", None):
            yield "L21", node.lineno
    for node in source.of(ast.FunctionDef):
        if node.decorator_list:
            yield "L4", node.lineno
        if node.end_lineno - node.lineno + 1 > 40:
            yield "L10", node.lineno
    lambdas = [(node.lineno, ast.dump(node.args)) for node in source.of(ast.Lambda)]
    for one in lambdas:
        if lambdas.count(one) > 1:
            yield "L13", one[0]


def class_faults(source):
    for node in source.of(ast.ClassDef):
        if source.above(node) is not source.tree:
            yield "L15", node.lineno
        if node.decorator_list or node.keywords or len(node.bases) > 1:
            yield "L5", node.lineno
        for base in node.bases:
            if not isinstance(base, ast.Name) or base.id not in ERRORS + tuple(source.classes + source.imports):
                yield "L5", node.lineno
            elif base.id in ("StopIteration", "AttributeError"):
                yield "L18", node.lineno
        methods = [one for one in node.body if isinstance(one, ast.FunctionDef)]
        names = [one.name for one in methods]
        if len(names) != len(set(names)):
            yield "L18", node.lineno
        for place, one in enumerate(node.body):
            if one not in methods and not isinstance(one, ast.Pass) and not (place == 0 and is_docstring(one)):
                yield "L5", one.lineno
        for method in methods:
            yield from method_faults(method)


def method_faults(method):
    if method.name.startswith("__") and method.name not in DOUBLE:
        yield "L5", method.lineno
    for node in ast.walk(method):
        if method.name == "__init__" and isinstance(node, ast.Return) and node.value is not None:
            yield "L28", node.lineno
        if method.name in DOUBLE[1:]:
            stored = isinstance(node, (ast.Attribute, ast.Subscript)) and isinstance(node.ctx, ast.Store)
            if stored or isinstance(node, ast.AugAssign):
                yield "L28", node.lineno
        if method.name == "__len__" and isinstance(node, ast.Return):
            if not is_call_of(node.value, ("len",)) and not isinstance(node.value, ast.Constant):
                yield "L28", node.lineno
        if method.name in ("__repr__", "__str__") and isinstance(node, ast.Return):
            joined = isinstance(node.value, ast.Call) and getattr(node.value.func, "attr", "") == "join"
            plain = isinstance(node.value, (ast.Constant, ast.JoinedStr))
            if not (joined or plain or is_call_of(node.value, ("str", "repr"))):
                yield "L28", node.lineno


def statement_faults(source):
    for node in source.nodes:
        if isinstance(node, ast.stmt) and not isinstance(node, STATEMENTS):
            yield "L6", node.lineno
        if isinstance(node, ast.Expr) and not isinstance(node.value, ast.Call) and not is_docstring(node):
            yield "L6", node.lineno
        if isinstance(node, ast.Assign):
            if len(node.targets) > 1 or isinstance(node.targets[0], (ast.Tuple, ast.List)):
                yield "L6", node.lineno
        if isinstance(node, (ast.For, ast.While)) and node.orelse:
            yield "L6", node.lineno
        if isinstance(node, ast.Try) and node.finalbody:
            yield "L6", node.lineno


def expression_faults(source):
    for node in source.nodes:
        if not isinstance(node, STATEMENTS + EXPRESSIONS + (ast.stmt,)):
            yield "L7", getattr(node, "lineno", 0)
        if isinstance(node, (ast.Div, ast.MatMult)):
            yield "L7", source.above(node).lineno
        if isinstance(node, ast.Constant) and type(node.value) not in (int, str, bool, type(None)):
            yield "L7", node.lineno
        if isinstance(node, ast.ListComp) and (len(node.generators) > 1 or len(node.generators[0].ifs) > 1):
            yield "L7", node.lineno
        if isinstance(node, ast.Dict) and None in node.keys:
            yield "L7", node.lineno
        if isinstance(node, ast.FormattedValue):
            if not isinstance(node.value, ast.Name) or node.format_spec or node.conversion not in (-1, ord("r")):
                yield "L7", node.lineno
        if isinstance(node, ast.Compare):
            for one, op, other in zip([node.left] + node.comparators, node.ops, node.comparators):
                beside = [side.value for side in (one, other) if isinstance(side, ast.Constant)]
                if isinstance(op, (ast.Is, ast.IsNot)):
                    if not [value for value in beside if value is None or type(value) is bool]:
                        yield "L20", node.lineno


def bound_names(source):
    """All names that the file binds, with their lines; those of its top are marked."""
    for node in source.nodes:
        if isinstance(node, ast.Name) and isinstance(node.ctx, ast.Store):
            yield node.id, node.lineno, source.above(node) in source.tree.body
        if isinstance(node, ast.arg):
            yield node.arg, node.lineno, False
        if isinstance(node, ast.ExceptHandler) and node.name:
            yield node.name, node.lineno, False
        if isinstance(node, (ast.FunctionDef, ast.ClassDef)):
            in_class = isinstance(source.above(node), ast.ClassDef)
            yield node.name, node.lineno, in_class or source.above(node) is source.tree


def name_faults(source):
    for name, line, at_top in bound_names(source):
        if not re.fullmatch(r"[A-Za-z][A-Za-z0-9_]*", name) and name not in DOUBLE + ("__all__", "__version__"):
            yield "L12", line
        if not at_top and name in source.classes + source.imports + OWN_NAMES:
            yield "L15", line
        if at_top and name in CALLED + KINDS + ERRORS:
            yield "L8", line
        if name in UNUSED + UNUSED_NAMES or FRAMES.fullmatch(name):
            yield "L17", line
    for node in source.of(ast.Name):
        if isinstance(node.ctx, ast.Load) and node.id in OWN_NAMES:
            if node.id not in CALLED + KINDS + ERRORS:
                yield "L8", node.lineno
            elif not used_rightly(source, node):
                yield "L22", node.lineno
        if node.id in UNUSED + UNUSED_NAMES or FRAMES.fullmatch(node.id):
            yield "L17", node.lineno
    for node in source.of(ast.Attribute):
        if node.attr in UNUSED + ("format", "format_map") or FRAMES.fullmatch(node.attr):
            yield "L17", node.lineno


def used_rightly(source, node):
    """Whether a name of Python's own, or a class, stands where the rules let it stand."""
    over = source.above(node)
    if isinstance(over, ast.Tuple):
        over = source.above(over)
    if isinstance(over, ast.Call) and over.func is node:
        return True
    if is_call_of(over, ("isinstance",)) or isinstance(over, (ast.ExceptHandler, ast.ClassDef)):
        return node.id not in CALLED
    if isinstance(over, ast.Attribute):
        return over.attr == "__init__"
    return isinstance(over, ast.keyword) and over.arg == "key" and node.id in (
        "len", "int", "str", "abs", "sum", "min", "max", "tuple"
    )


def class_use_faults(source):
    for node in source.of(ast.Name):
        if node.id in source.classes + [name for name in source.imports if name[0].isupper() and not name.isupper()]:
            if not used_rightly(source, node):
                yield "L18", node.lineno
    for node in source.of(ast.Attribute):
        if isinstance(node.ctx, ast.Store):
            top = source.classes + source.imports + source.defs + list(source.values)
            if not isinstance(node.value, ast.Name) or node.value.id in top:
                yield "L18", node.lineno


def call_faults(source):
    for node in source.of(ast.Call):
        names = [keyword.arg for keyword in node.keywords]
        if isinstance(node.func, ast.Name) and node.func.id in OWN_NAMES:
            if [name for name in names if name not in KEYWORDS.get(node.func.id, ())]:
                yield "L22", node.lineno
        elif isinstance(node.func, ast.Attribute) and node.func.attr in METHODS and names:
            yield "L22", node.lineno
        if is_call_of(node, ("isinstance",)) and not asks_for_kinds(source, node):
            yield "L22", node.lineno
        for keyword in node.keywords:
            if keyword.arg in ("reverse", "strict") and not isinstance(keyword.value, ast.Constant):
                yield "L22", node.lineno


def asks_for_kinds(source, node):
    """Whether an isinstance asks for the kinds that it may ask for: one, or a tuple of some."""
    kinds = node.args[1].elts if isinstance(node.args[1], ast.Tuple) else [node.args[1]]
    allowed = ("int", "str", "bool", "list", "tuple", "dict") + ERRORS + tuple(source.classes + source.imports)
    return all(isinstance(kind, ast.Name) and kind.id in allowed for kind in kinds)


def walked_at_once(source, node):
    over = source.above(node)
    if isinstance(over, (ast.For, ast.comprehension)):
        return over.iter is node
    if is_call_of(over, WALKERS):
        return node in over.args and (over.args[0] is node or over.func.id == "zip")
    joined = isinstance(over, ast.Call) and isinstance(over.func, ast.Attribute) and over.func.attr == "join"
    return joined and isinstance(over.func.value, ast.Constant)


def walk_faults(source):
    for node in source.of(ast.Call):
        method = isinstance(node.func, ast.Attribute) and node.func.attr in ("items", "keys", "values")
        if (method or is_call_of(node, WALKED)) and not walked_at_once(source, node):
            yield "L23", node.lineno
    for node in source.of(ast.For):
        walked = [ast.dump(node.iter)]
        if is_call_of(node.iter, ("enumerate", "zip", "reversed")):
            walked.extend(ast.dump(one) for one in node.iter.args)
        elif isinstance(node.iter, ast.Call) and isinstance(node.iter.func, ast.Attribute):
            walked.append(ast.dump(node.iter.func.value))
        for inner in [one for statement in node.body for one in ast.walk(statement)]:
            changed = isinstance(inner, ast.Subscript) and isinstance(inner.ctx, ast.Store)
            changed = changed or (isinstance(inner, ast.Attribute) and inner.attr in CHANGING)
            if changed and ast.dump(inner.value) in walked:
                yield "L23", inner.lineno


def set_faults(source):
    for node in source.of(ast.Set, ast.Call):
        if not isinstance(node, ast.Set) and not is_call_of(node, ("set", "frozenset")):
            continue
        over = source.above(node)
        while isinstance(over, ast.BinOp):
            over = source.above(over)
        if not isinstance(over, ast.Compare) and not (is_call_of(over, ("sorted", "len")) and not over.keywords):
            yield "L24", node.lineno
        if isinstance(node, ast.Set) and len([one for one in node.elts if isinstance(one, ast.Constant)]) > 2:
            if not isinstance(over, ast.Compare):
                yield "L13", node.lineno


def try_faults(source):
    for node in source.of(ast.Try):
        inner = [one for statement in node.body for one in ast.walk(statement)]
        for handler in node.handlers:
            taken = [one.id for one in ast.walk(handler.type) if isinstance(one, ast.Name)] if handler.type else [""]
            for name in taken:
                if name in ("", "Exception", "TypeError"):
                    yield "L19", handler.lineno
                if name in ("ValueError", "LookupError", "IndexError") and not narrow(inner, name):
                    yield "L19", handler.lineno
    for node in source.of(ast.Raise):
        if not isinstance(node.exc, ast.Call) or not isinstance(node.exc.func, ast.Name):
            yield "L19", node.lineno
        if node.cause is not None and not raised_from_its_own(source, node):
            yield "L19", node.lineno


def raised_from_its_own(source, node):
    """Whether a raise is from None, or from what its own handler took."""
    if isinstance(node.cause, ast.Constant):
        return node.cause.value is None
    over = source.above(node)
    while over is not None and not isinstance(over, (ast.ExceptHandler, ast.FunctionDef)):
        over = source.above(over)
    return isinstance(over, ast.ExceptHandler) and isinstance(node.cause, ast.Name) and node.cause.id == over.name


def narrow(inner, name):
    """Whether a try holds only what may be taken with Python's own error of a name."""
    for one in inner:
        if isinstance(one, (ast.JoinedStr, ast.Mult, ast.Pow, ast.Mod, ast.LShift, ast.RShift, ast.Slice, ast.Lambda)):
            return False
        if isinstance(one, ast.Call):
            method = isinstance(one.func, ast.Attribute) and one.func.attr in ("index", "remove")
            if name == "IndexError" or not (method or is_call_of(one, ("int", "str"))):
                return False
    return True


def method_use_faults(source, methods, values):
    for node in source.of(ast.Attribute):
        over = source.above(node)
        if isinstance(over, ast.Call) and over.func is node:
            if node.attr not in METHODS + DOUBLE + tuple(methods):
                yield "L25", node.lineno
        elif isinstance(node.ctx, ast.Load) and node.attr not in values and node.attr != "__init__":
            if not (isinstance(over, ast.keyword) and over.arg == "key"):
                yield "L25", node.lineno


def own_methods(sources):
    return sorted({
        node.name for source in sources.values() for node in source.of(ast.FunctionDef)
        if isinstance(source.above(node), ast.ClassDef)
    })


def own_values(sources):
    return sorted({
        node.attr for source in sources.values() for node in source.of(ast.Attribute) if isinstance(node.ctx, ast.Store)
    })


def own_name_faults(methods, values):
    for name in methods:
        if name in values:
            yield "L18", "", 0
        if name in TAKEN and name not in METHODS + DOUBLE + ("add", "discard"):
            yield "L26", "", 0
    for name in values:
        if name in TAKEN and name not in FREE_VALUES:
            yield "L26", "", 0


def number_faults(source):
    for node in source.nodes:
        if isinstance(node, ast.BinOp) and isinstance(node.op, ast.Pow):
            written = isinstance(node.right, ast.Constant) and type(node.right.value) is int
            if not written or not 0 <= node.right.value <= 64:
                yield "L27", node.lineno
        if isinstance(node, ast.AugAssign) and isinstance(node.op, ast.Pow):
            yield "L27", node.lineno
        if isinstance(node, ast.Constant) and isinstance(node.value, str) and "%" in node.value:
            yield "L27", node.lineno
    for number, row in enumerate(source.text.split("\n"), start=1):
        if re.search(r"\\[^nt\\'\"]", row) or re.search(r"[0-9]{901}", row):
            yield "L27", number


CHECKS = (
    text_faults, top_faults, kept_at_top_faults, def_faults, class_faults, statement_faults, expression_faults,
    name_faults, class_use_faults, call_faults, walk_faults, set_faults, try_faults, number_faults,
)


def faults(texts, package="dueworth"):
    """The faults (rule, file, line) of a package, told by its files' names and texts."""
    sources = {name: Source(name, text) for name, text in texts.items()}
    methods = own_methods(sources)
    values = own_values(sources)
    found = [] if "__init__.py" in sources else [("L14", "__init__.py", 0)]
    for name, source in sources.items():
        for check in CHECKS:
            found.extend((rule, name, line) for rule, line in check(source))
        found.extend((rule, name, line) for rule, line in import_faults(source, sources, package))
        found.extend((rule, name, line) for rule, line in method_use_faults(source, methods, values))
    found.extend(circle_faults(sources, package))
    found.extend(package_name_faults(sources))
    found.extend(own_name_faults(methods, values))
    return found

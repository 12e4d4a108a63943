"""Looks at the package's files by the rules of the language that they keep to, as far as a tree of syntax shows them.

Here and there it is narrower than the rules: no annotations, no sets, no assignment to several names at once, no
keywords at calls of the package's own.
"""

import ast
import builtins
import re

PACKAGE = "shortrows"

ALLOWED_BUILTINS = set("""
    len range enumerate zip min max sum abs sorted reversed int str bool list tuple dict isinstance ord repr any all
    divmod Exception ValueError TypeError KeyError IndexError LookupError ZeroDivisionError ArithmeticError
    OverflowError RuntimeError NotImplementedError AttributeError StopIteration""".split())
ALLOWED_METHODS = set("""
    append clear copy count endswith extend find get index insert isalnum isalpha isdigit islower isspace isupper items
    join keys ljust lower lstrip partition pop remove replace reverse rfind rjust rpartition rsplit rstrip setdefault
    split splitlines startswith strip update upper values zfill bit_length""".split())
BANNED_NAMES = set("""
    register mro elements open input version_info with_traceback add_note attrgetter breakpoint builtins compile
    copyright credits delattr dir eval exec exit gc getattr globals hasattr help id importlib license locals
    methodcaller os quit setattr super type vars sys format format_map""".split())
BANNED_VALUES = set("""
    items keys values pop update append clear extend insert remove reverse setdefault sort args encode format
    """.split())
BANNED_WORDS = set("""
    type typing typing_extensions enum Enum IntEnum StrEnum Flag IntFlag Generic Protocol ABC ABCMeta namedtuple
    NamedTuple TypedDict TYPE_CHECKING abstractmethod""".split())
BANNED_PARTS = ("dataclass", "overload", "contextmanager")
BANNED_FILES = {"test", "tests", "testing", "site", "conftest", "sitecustomize", "usercustomize"}
DUNDERS = {"__init__", "__eq__", "__repr__", "__str__", "__len__"}
WALKED = {"zip", "enumerate", "reversed", "range", "items", "keys", "values"}
WALKERS = {"list", "tuple", "dict", "sorted", "sum", "any", "all", "enumerate", "zip", "min", "max", "join"}
KEYWORDS = {"sorted": {"key", "reverse"}, "min": {"key", "default"}, "max": {"key", "default"}, "sum": {"start"},
            "enumerate": {"start"}, "zip": {"strict"}}

STATEMENTS = (ast.Assign, ast.AugAssign, ast.If, ast.While, ast.For, ast.Return, ast.Break, ast.Continue, ast.Pass,
              ast.Raise, ast.Try, ast.Expr, ast.FunctionDef, ast.ClassDef, ast.ImportFrom)
EXPRESSIONS = (ast.Constant, ast.Name, ast.List, ast.Tuple, ast.Dict, ast.BinOp, ast.UnaryOp, ast.BoolOp, ast.Compare,
               ast.IfExp, ast.Call, ast.Attribute, ast.Subscript, ast.Slice, ast.ListComp, ast.JoinedStr,
               ast.FormattedValue, ast.Lambda)


def faults(name, source):
    """The broken rules of one file, each a text: the rule, the file, the line."""
    return [f"{rule} {name}:{line}" for rule, line in sorted(set(faults_found(name, source)))]


def faults_found(name, source):
    yield from faults_of_text(source)
    yield from faults_of_file_name(name)
    tree = ast.parse(source)
    parents = {child: node for node in ast.walk(tree) for child in ast.iter_child_nodes(node)}
    yield from faults_of_top(tree)
    yield from faults_of_names(tree)
    for node in ast.walk(tree):
        if isinstance(node, ast.stmt):
            yield from faults_of_statement(node, parents)
        if isinstance(node, ast.expr):
            yield from faults_of_expression(node, parents)
        if isinstance(node, ast.arguments):
            yield from faults_of_arguments(node, parents[node].lineno)


def faults_of_text(source):
    if source.count("\n") > 400:
        yield "L10", 401
    for number, line in enumerate(source.split("\n"), start=1):
        if len(line) > 120 or "\t" in line:
            yield "L10", number
        if not all(" " <= sign <= "~" for sign in line):
            yield "L14", number
        words = re.findall(r"\w+", line)
        if BANNED_WORDS & set(words) or any(part in line for part in BANNED_PARTS):
            yield "L17", number
        if re.search(r"\\[^nt\\'\"]", line):
            yield "L27", number


def faults_of_file_name(name):
    for part in name.removesuffix(".py").split("/"):
        like_python = part in dir(builtins) or part in BANNED_WORDS
        if part != "__init__" and (not re.fullmatch(r"[a-z][a-z0-9_]*", part) or like_python):
            yield "L14", 1
        if part in BANNED_FILES or part.startswith("test_"):
            yield "L14", 1


def faults_of_top(tree):
    bound = []
    for number, node in enumerate(tree.body):
        if isinstance(node, ast.Expr):
            if number or not isinstance(node.value, ast.Constant) or not isinstance(node.value.value, str):
                yield "L3", node.lineno
        elif isinstance(node, ast.ImportFrom):
            bound.extend(alias.name for alias in node.names)
        elif isinstance(node, (ast.FunctionDef, ast.ClassDef)):
            bound.append(node.name)
        elif isinstance(node, ast.Assign) and isinstance(node.targets[0], ast.Name) and is_plain(node.value):
            bound.append(node.targets[0].id)
        else:
            yield "L3", node.lineno
    if len(bound) != len(set(bound)):
        yield "L15", 1


def is_plain(value, within=False):
    if isinstance(value, ast.UnaryOp):
        return isinstance(value.op, ast.USub) and is_plain(value.operand)
    if isinstance(value, ast.Dict):
        return not within and all(is_plain(part, True) for part in value.keys + value.values)
    if isinstance(value, ast.List):
        return not within and all(is_plain(part, True) for part in value.elts)
    if isinstance(value, ast.Tuple):
        return all(is_plain(part, within) for part in value.elts)
    return isinstance(value, (ast.Constant, ast.Name))


def faults_of_names(tree):
    taken = {alias.name for node in tree.body if isinstance(node, ast.ImportFrom) for alias in node.names}
    taken |= {node.name for node in tree.body if isinstance(node, ast.ClassDef)}
    methods = {item for node in tree.body if isinstance(node, ast.ClassDef) for item in node.body}
    for node in ast.walk(tree):
        bound = None
        if isinstance(node, ast.Name):
            if node.id in dir(builtins) and node.id not in ALLOWED_BUILTINS:
                yield "L8", node.lineno
            bound = node.id if isinstance(node.ctx, ast.Store) else None
        elif isinstance(node, ast.arg):
            bound = node.arg
        elif isinstance(node, (ast.FunctionDef, ast.ClassDef)) and node not in methods:
            bound = node.name
        elif isinstance(node, ast.ExceptHandler):
            bound = node.name
        if bound is None:
            continue
        if bound.startswith("_") or not bound.isascii():
            yield "L12", node.lineno
        if bound in dir(builtins) or bound in taken and not isinstance(node, ast.ClassDef):
            yield "L15", node.lineno
        if bound in BANNED_NAMES:
            yield "L17", node.lineno


def faults_of_statement(node, parents):
    above = parents[node]
    if not isinstance(node, STATEMENTS):
        yield "L6", node.lineno
    if isinstance(node, ast.Expr) and not isinstance(node.value, ast.Call) and not isinstance(above, ast.Module):
        yield "L6", node.lineno
    if isinstance(node, ast.Assign):
        yield from faults_of_assignment(node)
    if isinstance(node, (ast.For, ast.While)) and node.orelse:
        yield "L6", node.lineno
    if isinstance(node, ast.ImportFrom):
        inside = node.module == "__future__" or (node.module or "").startswith(PACKAGE + ".")
        plain = all(alias.name != "*" and alias.asname is None for alias in node.names)
        if node.level or not inside or not plain or not isinstance(above, ast.Module):
            yield "L2", node.lineno
    if isinstance(node, ast.FunctionDef):
        yield from faults_of_function(node, above)
    if isinstance(node, ast.ClassDef):
        yield from faults_of_class(node, above)
    if isinstance(node, ast.Try):
        yield from faults_of_try(node)
    if isinstance(node, ast.Raise) and not isinstance(node.exc, ast.Call):
        yield "L19", node.lineno


def faults_of_assignment(node):
    if len(node.targets) != 1 or isinstance(node.targets[0], (ast.Tuple, ast.List)):
        yield "L6", node.lineno
    if isinstance(node.targets[0], ast.Attribute) and node.targets[0].attr in BANNED_VALUES:
        yield "L26", node.lineno


def faults_of_function(node, above):
    if node.decorator_list:
        yield "L4", node.lineno
    if node.returns is not None:
        yield "L21", node.lineno
    if node.end_lineno - node.lineno >= 40:
        yield "L10", node.lineno
    if node.name.startswith("_") and not (isinstance(above, ast.ClassDef) and node.name in DUNDERS):
        yield "L5", node.lineno
    if node.name in BANNED_NAMES:
        yield "L17", node.lineno
    if node.name == "__init__" and any(isinstance(part, ast.Return) and part.value for part in ast.walk(node)):
        yield "L28", node.lineno


def faults_of_class(node, above):
    if not isinstance(above, ast.Module):
        yield "L15", node.lineno
    if len(node.bases) > 1 or node.keywords or node.decorator_list:
        yield "L5", node.lineno
    if not all(isinstance(part, (ast.FunctionDef, ast.Pass)) for part in node.body):
        yield "L5", node.lineno
    names = [part.name for part in node.body if isinstance(part, ast.FunctionDef)]
    if len(names) != len(set(names)):
        yield "L18", node.lineno


def faults_of_try(node):
    if node.finalbody:
        yield "L6", node.lineno
    for handler in node.handlers:
        kinds = handler.type.elts if isinstance(handler.type, ast.Tuple) else [handler.type]
        names = [kind.id if isinstance(kind, ast.Name) else None for kind in kinds]
        if None in names or "Exception" in names or "TypeError" in names:
            yield "L19", handler.lineno


def faults_of_arguments(node, line):
    if node.vararg or node.kwarg or node.kwonlyargs or node.posonlyargs or not all(map(is_plain, node.defaults)):
        yield "L4", line
    if any(part.annotation is not None for part in node.args):
        yield "L21", line


def faults_of_expression(node, parents):
    line = node.lineno
    if not isinstance(node, EXPRESSIONS):
        yield "L7", line
    if isinstance(node, ast.Constant):
        if not isinstance(node.value, (int, str)) and node.value is not None:
            yield "L7", line
        if isinstance(node.value, str) and "%" in node.value:
            yield "L27", line
    if isinstance(node, ast.BinOp):
        if isinstance(node.op, (ast.Div, ast.MatMult)):
            yield "L7", line
        if isinstance(node.op, ast.Pow) and not (isinstance(node.right, ast.Constant) and 0 <= node.right.value <= 64):
            yield "L27", line
    if isinstance(node, ast.ListComp):
        if len(node.generators) != 1 or len(node.generators[0].ifs) > 1:
            yield "L7", line
    if isinstance(node, ast.FormattedValue):
        if not isinstance(node.value, ast.Name) or node.format_spec or node.conversion not in (-1, ord("r")):
            yield "L7", line
    if isinstance(node, ast.Compare):
        yield from faults_of_comparison(node)
    if isinstance(node, ast.Attribute) and (node.attr in BANNED_NAMES or node.attr.startswith("_")):
        if node.attr != "__init__":
            yield "L17", line
    if isinstance(node, ast.Call):
        yield from faults_of_call(node, parents)


def faults_of_comparison(node):
    sides = [node.left] + node.comparators
    for number, op in enumerate(node.ops):
        if isinstance(op, (ast.Is, ast.IsNot)):
            pair = sides[number:number + 2]
            if not any(isinstance(side, ast.Constant) and side.value in (None, True, False) for side in pair):
                yield "L20", node.lineno


def called_name(node):
    if isinstance(node.func, ast.Name):
        return node.func.id
    return node.func.attr if isinstance(node.func, ast.Attribute) else None


def faults_of_call(node, parents):
    name = called_name(node)
    if name in WALKED:
        above = parents[node]
        walked = isinstance(above, (ast.For, ast.comprehension)) and above.iter is node
        handed = isinstance(above, ast.Call) and called_name(above) in WALKERS and node in above.args
        if not walked and not handed:
            yield "L23", node.lineno
    if not {keyword.arg for keyword in node.keywords} <= KEYWORDS.get(name, set()):
        yield "L22", node.lineno


def own_methods(trees):
    return {part.name for tree in trees for node in tree.body if isinstance(node, ast.ClassDef)
            for part in node.body if isinstance(part, ast.FunctionDef)}


def kept_values(trees):
    return {target.attr for tree in trees for node in ast.walk(tree) if isinstance(node, ast.Assign)
            for target in node.targets if isinstance(target, ast.Attribute)}


def faults_of_all(sources):
    """The rules that only the whole package shows, of a dict of file names and their texts."""
    trees = {name: ast.parse(source) for name, source in sources.items()}
    methods = own_methods(trees.values())
    found = [f"L18 {name}" for name in sorted((methods - DUNDERS) & kept_values(trees.values()))]
    for name, tree in trees.items():
        for node in ast.walk(tree):
            if isinstance(node, ast.Call) and isinstance(node.func, ast.Attribute):
                if node.func.attr not in ALLOWED_METHODS | methods:
                    found.append(f"L25 {name}:{node.lineno}")
            if isinstance(node, ast.ImportFrom) and node.module != "__future__":
                file = node.module.replace(".", "/") + ".py"
                if file not in trees or not {alias.name for alias in node.names} <= defined_in(trees[file]):
                    found.append(f"L16 {name}:{node.lineno}")
    return found + faults_of_circles(trees)


def defined_in(tree):
    names = {node.name for node in tree.body if isinstance(node, (ast.FunctionDef, ast.ClassDef))}
    return names | {node.targets[0].id for node in tree.body if isinstance(node, ast.Assign)}


def faults_of_circles(trees):
    drawn = {}
    for name, tree in trees.items():
        modules = [node.module for node in tree.body if isinstance(node, ast.ImportFrom)]
        drawn[name] = {module.replace(".", "/") + ".py" for module in modules if module != "__future__"}
    found = []
    for name in trees:
        reached, waiting = set(), list(drawn[name])
        while waiting:
            other = waiting.pop()
            if other not in reached:
                reached.add(other)
                waiting.extend(drawn.get(other, ()))
        if name in reached:
            found.append(f"L16 {name}")
    return found

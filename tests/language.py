"""Finds the rows of a package file that break a rule of ../shared/LANGUAGE.md, as far as they can be counted.

breaches(text, methods) returns a list of triples (rule, line, why). It knows the rules that need no
judgement; the others are left to the reader.
"""

import ast
import builtins
import io
import re
import tokenize

BUILTINS = set("""
    len range enumerate zip min max sum abs sorted reversed int str bool bytes list tuple dict set frozenset isinstance
    ord repr any all divmod iter next map print Exception ValueError TypeError KeyError IndexError LookupError
    ZeroDivisionError ArithmeticError OverflowError RuntimeError NotImplementedError AttributeError StopIteration
    NotImplemented property staticmethod classmethod super
""".split())
VALUE_METHODS = set("""
    append clear copy count endswith extend find get index insert isalnum isalpha isdigit islower isspace isupper items
    join keys ljust lower lstrip partition pop remove replace reverse rfind rjust rpartition rsplit rstrip setdefault
    split splitlines startswith strip update upper values zfill bit_length title capitalize swapcase casefold center
    expandtabs removeprefix removesuffix rindex isascii isdecimal isnumeric istitle isidentifier isprintable translate
    sort add discard
""".split())
DOUBLES = set("""
    __init__ __eq__ __repr__ __str__ __len__ __enter__ __exit__ __call__ __iter__ __lt__ __le__ __gt__ __ge__ __ne__
    __add__ __sub__ __mul__ __floordiv__ __mod__ __pow__ __and__ __or__ __xor__ __lshift__ __rshift__ __neg__ __pos__
    __invert__ __abs__ __bool__ __contains__ __getitem__ __setitem__
""".split())
NOWHERE = {"register", "mro", "elements", "open", "input", "law", "version_info", "with_traceback", "add_note"}
NO_WORDS = set("""
    typing typing_extensions enum Enum IntEnum StrEnum Flag IntFlag Generic Protocol ABC ABCMeta namedtuple NamedTuple
    TypedDict TYPE_CHECKING abstractmethod dataclass overload contextmanager type
""".split())
NO_BEGINNINGS = ("_wall", "_pe_", "_dcw_", "_enum_", "_cm_", "_twin_re_", "_lay_", "_law_", "_stub_", "_sre")
NO_STEMS = {"_cold", "_tuplegetter", "_outside", "_record", "_written_out", "_member_names", "_WallAttr"}
LIBRARY = {
    "heapq": {"heappush", "heappop", "heapify", "heapreplace", "heappushpop"},
    "math": {"gcd", "lcm", "isqrt", "comb", "perm", "factorial"},
    "itertools": {"product", "combinations", "permutations"},
}
NO_STATEMENTS = (ast.Global, ast.AsyncFunctionDef, ast.AsyncFor, ast.AsyncWith, ast.Await, ast.Import)
MODULE_LEVEL = (ast.ImportFrom, ast.FunctionDef, ast.ClassDef, ast.Assign)
NAME = re.compile(r"_|_?[A-Za-z][A-Za-z0-9_]*")


def breaches(text, methods=()):
    """All breaches of a file of the package; `methods` are the names of the methods of the whole package."""
    found = line_breaches(text)
    tree = ast.parse(text)
    found += module_breaches(tree)
    found += word_breaches(text, tree)
    own = set(methods) | method_names(tree)
    known = BUILTINS | bound_names(tree)
    for node in ast.walk(tree):
        for rule, why in node_breaches(node, text, own, known):
            found.append((rule, getattr(node, "lineno", 1), why))
    return sorted(set(found), key=lambda breach: breach[1])


def method_names(tree):
    """The names of the methods of all classes of a file."""
    classes = [node for node in ast.walk(tree) if isinstance(node, ast.ClassDef)]
    return {part.name for node in classes for part in node.body if isinstance(part, ast.FunctionDef)}


def line_breaches(text):
    lines = text.split("\n")
    found = []
    if len(text.splitlines()) > 399:
        found.append(("L10", 400, "a file of more than 399 lines"))
    for number, line in enumerate(lines, 1):
        if len(line) > 120:
            found.append(("L10", number, "a line of more than 120 characters"))
        if "\t" in line:
            found.append(("L10", number, "a tab"))
        if any(not " " <= sign <= "~" for sign in line):
            found.append(("L14", number, "a sign outside of the range from the space to ~"))
    return found


def module_breaches(tree):
    found = []
    bound = set()
    for at, node in enumerate(tree.body):
        if at == 0 and is_docstring(node):
            continue
        if not isinstance(node, MODULE_LEVEL):
            found.append(("L3", node.lineno, "a statement that may not stand at module level"))
        for name in names_of_statement(node):
            if name in bound:
                found.append(("L15", node.lineno, f"{name} is bound twice"))
            bound.add(name)
    return found


def is_docstring(node):
    return isinstance(node, ast.Expr) and isinstance(node.value, ast.Constant) and isinstance(node.value.value, str)


def names_of_statement(node):
    if isinstance(node, ast.ImportFrom):
        return [alias.asname or alias.name for alias in node.names]
    if isinstance(node, (ast.FunctionDef, ast.ClassDef)):
        return [node.name]
    if isinstance(node, ast.Assign):
        return [target.id for target in node.targets if isinstance(target, ast.Name)]
    return []


def bound_names(tree):
    """Every name that the file binds anywhere."""
    names = set()
    for node in ast.walk(tree):
        names.update(names_of_statement(node))
        if isinstance(node, ast.Name) and not isinstance(node.ctx, ast.Load):
            names.add(node.id)
        elif isinstance(node, ast.arg):
            names.add(node.arg)
        elif isinstance(node, ast.ExceptHandler) and node.name:
            names.add(node.name)
        elif isinstance(node, (ast.MatchAs, ast.MatchStar)) and node.name:
            names.add(node.name)
    return names


def word_breaches(text, tree):
    """L17: words that stand in code or in a string that is no docstring."""
    docstrings = set()
    for node in ast.walk(tree):
        if isinstance(node, (ast.Module, ast.FunctionDef, ast.ClassDef)) and node.body and is_docstring(node.body[0]):
            docstrings.update(range(node.body[0].lineno, node.body[0].end_lineno + 1))
    found = []
    for token in tokenize.generate_tokens(io.StringIO(text).readline):
        barred = NO_WORDS & set(re.findall(r"\w+", token.string))
        if token.type != tokenize.COMMENT and token.start[0] not in docstrings and barred:
            found.append(("L17", token.start[0], f"the word {min(barred)}"))
    for number, line in enumerate(text.split("\n"), 1):
        if "__getitem__" in text and ("(type)" in line or "Meta" in line or "metaclass=" in line):
            found.append(("L17", number, "a word that may not stand beside __getitem__"))
    return found


def node_breaches(node, text, own, known):
    """The pairs (rule, why) for one node."""
    for check in (function_breaches, class_breaches, import_breaches, name_breaches, string_breaches,
                  value_breaches, statement_breaches):
        yield from check(node)
    if isinstance(node, (ast.Constant, ast.JoinedStr)) and "\\" in (ast.get_source_segment(text, node) or ""):
        if re.search(r"\\[^nt\\'\"]", ast.get_source_segment(text, node).replace("\\\\", "")):
            yield "L27", "an escape"
    if isinstance(node, ast.Call) and isinstance(node.func, ast.Attribute):
        name = node.func.attr
        if name not in VALUE_METHODS | own and not (name in DOUBLES and name == "__init__"):
            yield "L25", f"the method {name}"
    if isinstance(node, ast.Name) and isinstance(node.ctx, ast.Load) and node.id not in known:
        yield "L8", f"the name {node.id}"


def function_breaches(node):
    if not isinstance(node, ast.FunctionDef):
        return
    first = min([node.lineno] + [decorator.lineno for decorator in node.decorator_list])
    if node.end_lineno - first + 1 > 40:
        yield "L10", "a function of more than 40 lines"
    for decorator in node.decorator_list:
        plain = isinstance(decorator, ast.Name) and decorator.id in ("property", "staticmethod", "classmethod")
        setter = isinstance(decorator, ast.Attribute) and decorator.attr == "setter"
        if not plain and not setter:
            yield "L4", "a decorator"
    if node.name.startswith("__") and not is_double(node.name):
        yield "L5", f"the method {node.name}"


def is_double(name):
    plain = name.replace("__i", "__", 1) if name.startswith("__i") else name.replace("__r", "__", 1)
    return name in DOUBLES or plain in DOUBLES


def class_breaches(node):
    if not isinstance(node, ast.ClassDef):
        return
    names = [part.name for part in node.body if isinstance(part, ast.FunctionDef)]
    setters = [part.name for part in node.body if isinstance(part, ast.FunctionDef)
               and any(isinstance(decorator, ast.Attribute) for decorator in part.decorator_list)]
    for name in set(names):
        if names.count(name) > 1 + setters.count(name):
            yield "L18", f"{name} is defined twice"
    if node.decorator_list:
        yield "L5", "a decorator over a class"
    if "__getitem__" in names and "__iter__" not in names:
        yield "L5", "__getitem__ without __iter__"


def import_breaches(node):
    if not isinstance(node, ast.ImportFrom):
        return
    own = node.level == 0 and node.module.startswith("wardwork.")
    future = node.module == "__future__" and [alias.name for alias in node.names] == ["annotations"]
    library = node.module in LIBRARY and all(
        alias.name in LIBRARY[node.module] and alias.asname is None for alias in node.names)
    if not own and not future and not library:
        yield "L2", f"an import from {node.module}"
    if any(alias.name == "*" for alias in node.names):
        yield "L2", "an import of everything"


def bound_in(node):
    """The names that a node gives to something."""
    if isinstance(node, (ast.FunctionDef, ast.ClassDef)):
        return [node.name]
    if isinstance(node, ast.Name) and not isinstance(node.ctx, ast.Load):
        return [node.id]
    if isinstance(node, (ast.arg, ast.keyword)) and node.arg:
        return [node.arg]
    if isinstance(node, ast.Attribute):
        return [node.attr]
    return []


def name_breaches(node):
    for name in bound_in(node):
        if name in NOWHERE:
            yield "L17", f"the name {name}"
        if not NAME.fullmatch(name) and name not in DOUBLES and not is_double(name):
            yield "L12", f"the name {name}"
        if not isinstance(node, ast.Attribute) and name.startswith(NO_BEGINNINGS):
            yield "L12", f"the name {name}"
        if re.sub(r"[0-9_]+$", "", name) in NO_STEMS:
            yield "L12", f"the name {name}"
        if isinstance(node, (ast.Name, ast.arg)) and name in vars(builtins):
            yield "L15", f"{name} is the name of a builtin"
    if isinstance(node, ast.Name) and node.id in ("chr", "type", "getattr", "setattr", "hasattr", "vars", "id"):
        yield "L27" if node.id == "chr" else "L17", f"the name {node.id}"


def string_breaches(node):
    if not isinstance(node, ast.Constant) or not isinstance(node.value, (str, bytes)):
        return
    text = node.value if isinstance(node.value, str) else node.value.decode("latin-1")
    if "%" in text:
        yield "L27", "the sign % in a string"
    if text.endswith(("._", ".__")):
        yield "L27", "a string that ends in ._"
    if text.startswith("__") and text.endswith("__") and text != "__main__":
        yield "L27", "a string between underscores"


def value_breaches(node):
    if isinstance(node, ast.Constant) and isinstance(node.value, (float, complex)):
        yield "L7", "a float"
    if isinstance(node, (ast.BinOp, ast.AugAssign)) and isinstance(node.op, ast.Div):
        yield "L7", "the sign /"
    if isinstance(node, (ast.BinOp, ast.AugAssign)) and isinstance(node.op, ast.MatMult):
        yield "L7", "the sign @"
    if isinstance(node, ast.BinOp) and isinstance(node.op, ast.Pow):
        power = node.right
        if not isinstance(power, ast.Constant) or not isinstance(power.value, int) or not 0 <= power.value <= 64:
            yield "L27", "a power that is no literal from 0 to 64"
    if isinstance(node, ast.Set) and len(node.elts) > 2:
        yield "L13", "a set of three or more"
    if isinstance(node, ast.Compare):
        for sign, right in zip(node.ops, node.comparators):
            if isinstance(sign, (ast.Is, ast.IsNot)) and not isinstance(right, ast.Constant):
                yield "L20", "is beside another value than None, True and False"


def statement_breaches(node):
    if isinstance(node, NO_STATEMENTS):
        yield "L6", f"a statement that is not allowed: {node.__class__.__name__}"
    if isinstance(node, ast.ExceptHandler):
        if node.type is None:
            yield "L19", "an except without an error"
        elif isinstance(node.type, ast.Name) and node.type.id in (
                "Exception", "BaseException", "TypeError", "ArithmeticError", "OverflowError", "RuntimeError",
                "NotImplementedError", "AttributeError"):
            yield "L19", f"an except of {node.type.id}"
    if isinstance(node, ast.Raise) and node.exc is not None and not (
            isinstance(node.exc, ast.Call) and isinstance(node.exc.func, ast.Name)):
        yield "L19", "a raise that creates no error on the spot"

"""What a script can see of the rules of the language (L1 to L28), over all files of the package.

Where a rule allows a thing under conditions that no stage needs so far, this script bars the thing altogether.
"""

import ast
import builtins
import io
import keyword
import re
import sys
import tokenize

PACKAGE = "fewtouched"

LIBRARY = {
    "heapq": ("heappush", "heappop", "heapify", "heapreplace", "heappushpop"),
    "math": ("gcd", "lcm", "isqrt", "comb", "perm", "factorial"),
    # product and its kin are barred where objects are iterated over and have a length, as scenes do.
    "itertools": ("chain", "accumulate", "pairwise", "islice", "zip_longest"),
    "collections": ("defaultdict", "deque"),
    "__future__": ("annotations",),
}
ERRORS = ("Exception", "ValueError", "TypeError", "KeyError", "IndexError", "LookupError", "ZeroDivisionError",
          "ArithmeticError", "OverflowError", "RuntimeError", "NotImplementedError", "AttributeError",
          "StopIteration")
BUILTINS = ("len", "range", "enumerate", "zip", "min", "max", "sum", "abs", "sorted", "reversed", "int", "str", "bool",
            "list", "tuple", "dict", "set", "isinstance", "ord", "repr", "any", "all", "divmod", "iter", "next", "map",
            "property", "classmethod", "staticmethod", "super", "NotImplemented", *ERRORS)
CAUGHT = ("KeyError", "ZeroDivisionError")
KEYWORDS = {"sorted": ("key", "reverse"), "min": ("key", "default"), "max": ("key", "default"), "sum": ("start",),
            "enumerate": ("start",), "zip": ("strict",)}
METHODS = """append clear copy count endswith extend find get index insert isalnum isalpha isdigit islower isspace
    isupper items join keys ljust lower lstrip partition pop remove replace reverse rfind rjust rpartition rsplit
    rstrip setdefault split splitlines startswith strip update upper values zfill bit_length title capitalize swapcase
    casefold center expandtabs removeprefix removesuffix rindex isascii isdecimal isnumeric istitle isidentifier
    isprintable add discard appendleft popleft extendleft rotate""".split()
MODIFYING = """append clear extend insert pop remove reverse setdefault update add discard sort appendleft popleft
    extendleft rotate popitem""".split()
NOT_ATTRIBUTES = """items keys values pop update append clear extend insert remove reverse setdefault sort args encode
    decode hex fromhex format format_map mro as_integer_ratio bit_count conjugate from_bytes is_integer to_bytes
    """.split()
OPERATORS = ["__" + name + "__" for name in """lt le gt ge ne add sub mul floordiv mod pow and or xor lshift rshift radd
    rsub rmul rfloordiv rmod rand ror rxor rlshift rrshift neg pos invert abs bool contains getitem""".split()]
OTHER_DUNDERS = ["__" + name + "__" for name in """init eq repr str len enter exit call iter setitem iadd isub imul
    ifloordiv imod iand ior ixor ilshift irshift""".split()]
NOWHERE = ("mro", "elements", "open", "input", "law", "version_info", "with_traceback", "add_note", "register")
NOT_NAMED = """attrgetter breakpoint builtins compile copyright credits delattr dir eval exec exit gc getattr globals
    hasattr help id importlib license locals methodcaller os quit setattr super type vars sys""".split()
WORDS = """type typing typing_extensions enum Enum IntEnum StrEnum Flag IntFlag Generic Protocol ABC ABCMeta namedtuple
    NamedTuple TypedDict TYPE_CHECKING abstractmethod""".split()
PARTS = ("dataclass", "overload", "contextmanager")
BAD_STARTS = ("_wall", "_pe_", "_dcw_", "_enum_", "_cm_", "_twin_re_", "_lay_", "_law_", "_stub_", "_sre", "_WallAttr")
BAD_NAMES = ("_cold", "_tuplegetter", "_outside", "_record", "_written_out", "_member_names")
FRAMES = re.compile(r"(f|tb|co|gi|cr|ag)_[a-z]+")
STATEMENTS = (ast.Assign, ast.AugAssign, ast.If, ast.While, ast.For, ast.Return, ast.Break, ast.Continue, ast.Pass,
              ast.Raise, ast.Assert, ast.Delete, ast.Nonlocal, ast.With, ast.Try, ast.Expr, ast.FunctionDef)
COMPREHENSIONS = (ast.ListComp, ast.SetComp, ast.DictComp, ast.GeneratorExp)
AT_ONCE = ("list", "tuple", "dict", "sorted", "sum", "any", "all", "enumerate", "zip", "min", "max")
LAZY = ("zip", "enumerate", "reversed", "map")
VIEWS = ("items", "keys", "values")


class Package:
    """The files of a package, by their paths from above it, with what they define."""

    def __init__(self, files):
        self.files = files
        self.trees = {path: ast.parse(text) for path, text in files.items() if path.endswith(".py")}
        self.parents = {}
        for tree in self.trees.values():
            for node in ast.walk(tree):
                for child in ast.iter_child_nodes(node):
                    self.parents[child] = node
        self.classes, self.functions, self.methods, self.attributes = {}, {}, {}, set()
        self.properties, self.class_values, self.generators, self.path_around = {}, set(), set(), {}
        for path, tree in self.trees.items():
            for node in tree.body:
                if isinstance(node, ast.ClassDef):
                    self.classes[node.name] = node
                    self.look_at_class(node)
                if isinstance(node, ast.FunctionDef):
                    self.functions[path, node.name] = node
            for node in ast.walk(tree):
                self.path_around[node] = path
                if isinstance(node, (ast.Yield, ast.YieldFrom)):
                    self.generators.add(self.function_around(node).name)

    def look_at_class(self, node):
        for part in node.body:
            if isinstance(part, ast.FunctionDef):
                self.methods.setdefault(part.name, []).append(part)
                if any(isinstance(mark, ast.Name) and mark.id == "property" for mark in part.decorator_list):
                    self.properties.setdefault(part.name, []).append(part)
            if isinstance(part, ast.Assign):
                self.class_values.update(target.id for target in part.targets if isinstance(target, ast.Name))
        for part in ast.walk(node):
            if isinstance(part, ast.Attribute) and isinstance(part.ctx, ast.Store):
                self.attributes.add(part.attr)

    def function_around(self, node):
        while not isinstance(node, (ast.FunctionDef, ast.Module)):
            node = self.parents[node]
        return node

    def function(self, path, name):
        """The function at module level that has the name in a file, be it defined there or imported."""
        for node in self.trees[path].body:
            if isinstance(node, ast.ImportFrom) and name in [alias.name for alias in node.names]:
                return self.functions.get((self.path_of(node.module or ""), name))
        return self.functions.get((path, name))

    def is_error(self, name):
        """Whether it is an own error class."""
        node = self.classes.get(name)
        bases = [base.id for base in node.bases if isinstance(base, ast.Name)] if node else []
        return any(base in ERRORS or self.is_error(base) for base in bases)

    def path_of(self, module):
        path = module.replace(".", "/")
        return path + ".py" if path + ".py" in self.files else path + "/__init__.py"


def complaints(files):
    """All complaints about the files, each as path:line: rule: what."""
    package = Package(files)
    found = [(path, 1, rule, what) for path, rule, what in files_of(package)]
    for path, tree in package.trees.items():
        for look in LOOKS:
            found += [(path, line, rule, what) for line, rule, what in look(package, path, tree)]
    found += [(path, line, rule, what) for path, line, rule, what in impure(package)]
    return [f"{path}:{line}: {rule}: {what}" for path, line, rule, what in sorted(found)]


# L1, L14: files and characters

def files_of(package):
    folders = {path.rpartition("/")[0] for path in package.files}
    if len(package.files) > 100:
        yield PACKAGE, "L14", "more than 100 files"
    for folder in sorted(folders):
        above = folder
        while above:
            if above + "/__init__.py" not in package.files:
                yield folder, "L14", "a folder without __init__.py"
            above = above.rpartition("/")[0]
    for path in sorted(package.files):
        folder, _, name = path.rpartition("/")
        stem = name[:-3]
        if not re.fullmatch(r"[a-z0-9_]+\.py", name) or not path.startswith(PACKAGE + "/"):
            yield path, "L1", "not a plain file of the package"
        if stem == "__main__" and folder != PACKAGE:
            yield path, "L14", "__main__ not at the top"
        if path[:-3] in folders:
            yield path, "L14", "a file has the name of a folder beside it"
        for word in [part for part in path[:-3].split("/")[1:] if part not in ("__init__", "__main__")]:
            bad = word in ("law", "test", "tests", "testing", "site", "conftest", "sitecustomize", "usercustomize")
            if bad or word.startswith(("law_", "test_")) or hasattr(builtins, word) or word in WORDS + list(NOWHERE):
                yield path, "L14", f"a file or folder is called {word}"
            if word in ("heapq", "math", "itertools"):
                yield path, "L2", f"a file or folder is called {word}"
    if PACKAGE in sys.stdlib_module_names:
        yield PACKAGE, "L14", "the name of a module of the standard library"


def characters(package, path, tree):
    lines = package.files[path].split("\n")
    for at, line in enumerate(lines, 1):
        if not all(" " <= sign <= "~" for sign in line):
            yield at, "L14", "a character beyond the space to ~"
        if len(line) > 120:
            yield at, "L10", "a line of more than 120 characters"
        if "_wall" in line or "_WallAttr" in line:
            yield at, "L12", "a word that stands nowhere"
    if len(package.files[path].splitlines()) > 399:
        yield 1, "L10", "a file of more than 399 lines"


def sizes(package, path, tree):
    for node in ast.walk(tree):
        if isinstance(node, ast.FunctionDef):
            first = min([node.lineno, *[mark.lineno for mark in node.decorator_list]])
            if node.end_lineno - first + 1 > 40:
                yield node.lineno, "L10", "a function of more than 40 lines"


def docstrings(tree):
    found = []
    for node in ast.walk(tree):
        if isinstance(node, (ast.Module, ast.ClassDef, ast.FunctionDef)) and node.body:
            first = node.body[0]
            if isinstance(first, ast.Expr) and isinstance(first.value, ast.Constant) \
                    and isinstance(first.value.value, str):
                found.append(first.value)
    return found


def words(package, path, tree):
    """L17's words, and what strings contain (L27)."""
    free = {node.lineno for node in docstrings(tree)}
    for token in tokenize.generate_tokens(io.StringIO(package.files[path]).readline):
        line, text = token.start[0], token.string
        if token.type == tokenize.NAME:
            if text in WORDS or any(part in text for part in PARTS):
                yield line, "L17", f"the word {text}"
        if token.type == tokenize.STRING:
            if re.search(r"\\[^nt\\'\"]", text.replace("\\\\", "")):
                yield line, "L27", "an escape"
            if line not in free and (set(re.findall(r"\w+", text)) & set(WORDS) or any(part in text for part in PARTS)):
                yield line, "L17", "a word in a string"
        if token.type not in (tokenize.COMMENT, tokenize.NL, tokenize.NEWLINE) and line not in free and "%" in text:
            if token.type != tokenize.OP:
                yield line, "L27", "the character % in a string"
    for node in ast.walk(tree):
        if isinstance(node, ast.Constant) and isinstance(node.value, str) and node.lineno not in free:
            text = node.value
            if text.endswith(("._", ".__")) or text.startswith("__") and text.endswith("__"):
                yield node.lineno, "L27", "a string with underscores"
            if FRAMES.fullmatch(text):
                yield node.lineno, "L27", "a string with the name of a part of a frame"
            if ("{" in text or "." in text and " " not in text) and re.search(r"\b__\w|\b(f|tb|co)_[a-z]", text):
                yield node.lineno, "L27", "a string with underscores behind a dot or a brace"


# L2, L16: imports

def imports(package, path, tree):
    body = tree.body[1:] if docstrings(tree) and tree.body[0].lineno in [d.lineno for d in docstrings(tree)] \
        else tree.body
    at_top = True
    for node in body:
        is_import = isinstance(node, (ast.Import, ast.ImportFrom))
        if is_import and not at_top:
            yield node.lineno, "L2", "an import that is not at the top"
        at_top = at_top and is_import
    for node in ast.walk(tree):
        if isinstance(node, ast.Import):
            yield node.lineno, "L16", "an import without from"
        if isinstance(node, ast.ImportFrom):
            yield from import_from(package, path, node)
            if not isinstance(package.parents[node], ast.Module):
                yield node.lineno, "L2", "an import that is not at the top"
    if path in cycles(package):
        yield 1, "L16", "files import from each other"


def import_from(package, path, node):
    module, names = node.module or "", [alias.name for alias in node.names]
    if node.level or "*" in names or any(alias.asname for alias in node.names):
        yield node.lineno, "L2", "an import with a leading dot, with * or with as"
    elif module in LIBRARY:
        for name in names:
            if name not in LIBRARY[module]:
                yield node.lineno, "L2", f"{name} of {module}"
    elif module.split(".")[0] != PACKAGE or module.endswith("__main__"):
        yield node.lineno, "L2", f"an import from {module}"
    else:
        target = package.path_of(module)
        defined = bound_at_top(package.trees[target], False) if target in package.trees else {}
        for name in names:
            if name not in defined:
                yield node.lineno, "L16", f"{name} is not defined in {module}"


def cycles(package):
    """The paths of the files that lead back to themselves; the __init__.py above a file are imported, too."""
    leads = {}
    for path, tree in package.trees.items():
        modules = [node.module for node in ast.walk(tree) if isinstance(node, ast.ImportFrom) and node.module]
        leads[path] = set()
        for module in modules:
            if module.split(".")[0] == PACKAGE:
                parts = module.split(".")
                leads[path].add(package.path_of(module))
                leads[path].update("/".join(parts[:at]) + "/__init__.py" for at in range(1, len(parts)))
    found = set()
    for path in leads:
        seen, queue = set(), list(leads[path])
        while queue:
            step = queue.pop()
            if step not in seen:
                seen.add(step)
                queue += leads.get(step, ())
        if path in seen:
            found.add(path)
    return found


# L3, L15: module level

def bound_at_top(tree, with_imports=True):
    """How often each name is bound at module level."""
    found = {}
    for node in tree.body:
        names = []
        if isinstance(node, (ast.FunctionDef, ast.ClassDef)):
            names = [node.name]
        if isinstance(node, ast.Assign):
            names = [target.id for target in node.targets if isinstance(target, ast.Name)]
        if isinstance(node, (ast.Import, ast.ImportFrom)) and with_imports:
            names = [alias.asname or alias.name for alias in node.names]
        for name in names:
            found[name] = found.get(name, 0) + 1
    return found


def is_plain(node, names=(), inside=False):
    """Whether the value is plain: constants, and lists, tuples and dicts of them, none of the two in another."""
    if isinstance(node, ast.Constant):
        return node.value is None or isinstance(node.value, (int, str, bytes))
    if isinstance(node, ast.UnaryOp):
        return isinstance(node.op, ast.USub) and is_plain(node.operand, names, inside)
    if isinstance(node, ast.BinOp):
        return is_plain(node.left, names, inside) and is_plain(node.right, names, inside)
    if isinstance(node, ast.Name):
        return node.id in names
    if isinstance(node, ast.Tuple):
        return all(is_plain(part, names, inside) for part in node.elts)
    if isinstance(node, ast.List):
        return not inside and all(is_plain(part, names, True) for part in node.elts)
    if isinstance(node, ast.Dict):
        parts = [*node.keys, *node.values]
        return not inside and all(part is not None and is_plain(part, names, True) for part in parts)
    return False


def module_level(package, path, tree):
    top = bound_at_top(tree)
    for name, times in top.items():
        if times > 1:
            yield 1, "L15", f"{name} is bound {times} times"
    for node in tree.body:
        if isinstance(node, ast.Assign):
            names = [target.id for target in node.targets if isinstance(target, ast.Name)]
            if len(node.targets) != 1 or len(names) != 1 or not is_plain(node.value, top):
                yield node.lineno, "L3", "not a name that is assigned a plain value"
        elif isinstance(node, ast.Expr):
            if node is not tree.body[0] or not docstrings(ast.Module([node], [])):
                yield node.lineno, "L3", "an expression at module level"
        elif not isinstance(node, (ast.FunctionDef, ast.ClassDef, ast.Import, ast.ImportFrom)):
            yield node.lineno, "L3", "a statement at module level"


# L4, L5, L28: functions and classes

def parameters(node):
    spec = node.args
    return [*spec.posonlyargs, *spec.args, *([spec.vararg] if spec.vararg else []), *spec.kwonlyargs,
            *([spec.kwarg] if spec.kwarg else [])]


def functions(package, path, tree):
    top = bound_at_top(tree)
    for node in ast.walk(tree):
        if not isinstance(node, (ast.FunctionDef, ast.Lambda)):
            continue
        in_class = isinstance(package.parents[node], ast.ClassDef)
        for value in [*node.args.defaults, *[value for value in node.args.kw_defaults if value]]:
            if not is_plain(value, top, True):
                yield node.lineno, "L4", "a default value that is not plain"
        if isinstance(node, ast.Lambda):
            if node.args.kwonlyargs or node.args.vararg or node.args.kwarg:
                yield node.lineno, "L4", "a star in a lambda"
            continue
        for mark in node.decorator_list:
            named = isinstance(mark, ast.Name) and mark.id in ("property", "classmethod", "staticmethod")
            setter = isinstance(mark, ast.Attribute) and mark.attr == "setter"
            if not in_class or not (named or setter) or len(node.decorator_list) > 1:
                yield node.lineno, "L4", "a decorator"
        if node.returns or any(part.annotation for part in parameters(node)):
            yield node.lineno, "L21", "an annotation"
        if in_class:
            yield from method(package, path, node)
        elif node.name.startswith("__"):
            yield node.lineno, "L28", "a double-underscore function outside of a class"


def method(package, path, node):
    plain = node.args.posonlyargs + node.args.args
    if not plain and not (node.decorator_list and getattr(node.decorator_list[0], "id", "") == "staticmethod"):
        yield node.lineno, "L4", "a method without a plain first parameter"
    if node.args.posonlyargs:
        yield node.lineno, "L4", "a / in a method"
    if node.args.kwonlyargs and (node.name in METHODS or node.name.startswith("__") and node.name != "__init__"):
        yield node.lineno, "L4", "a bare * in such a method"
    if not node.name.startswith("__"):
        return
    if node.name not in OPERATORS + OTHER_DUNDERS:
        yield node.lineno, "L5", f"the method {node.name}"
    if node.decorator_list or any(isinstance(part, (ast.Yield, ast.YieldFrom)) for part in ast.walk(node)) \
            and node.name != "__iter__":
        yield node.lineno, "L5", f"a decorator over, or a yield in, {node.name}"
    returns = [part for part in ast.walk(node) if isinstance(part, ast.Return)]
    body = node.body[1:] if docstrings(ast.Module([node], [])) and isinstance(node.body[0], ast.Expr) else node.body
    if node.name == "__init__" and returns:
        yield node.lineno, "L28", "__init__ returns"
    if node.name == "__len__" and not all(is_len(part.value) for part in returns):
        yield node.lineno, "L28", "__len__ returns no len(..)"
    if node.name in ("__str__", "__repr__") and not all(is_text(part.value) for part in returns):
        yield node.lineno, "L28", f"{node.name} returns no plain text"
    if node.name in ("__len__", "__str__", "__repr__") and not isinstance(body[-1], ast.Return):
        yield node.lineno, "L28", f"{node.name} does not end with a return"
    if node.name == "__eq__" and not is_equality(package, body):
        yield node.lineno, "L28", "__eq__ does not ask first whether the other is of its class"
    if node.name == "__iter__" and not is_iteration(body):
        yield node.lineno, "L5", "__iter__ is not of the one form"


def is_call(node, *names):
    return isinstance(node, ast.Call) and isinstance(node.func, ast.Name) and node.func.id in names


def is_len(node):
    return is_call(node, "len") or isinstance(node, ast.Constant) and isinstance(node.value, int)


def is_text(node):
    join = isinstance(node, ast.Call) and isinstance(node.func, ast.Attribute) and node.func.attr == "join" \
        and isinstance(node.func.value, ast.Constant)
    return isinstance(node, ast.JoinedStr) or isinstance(node, ast.Constant) and isinstance(node.value, str) \
        or is_call(node, "str", "repr") or join


def is_equality(package, body):
    def asks(test):
        return is_call(test, "isinstance") and isinstance(test.args[1], ast.Name) \
            and test.args[1].id in package.classes
    first = body[0]
    if isinstance(first, ast.Return):
        test = first.value
        return isinstance(test, ast.BoolOp) and isinstance(test.op, ast.And) and asks(test.values[0])
    if isinstance(first, ast.If) and isinstance(first.test, ast.UnaryOp) and isinstance(first.test.op, ast.Not):
        return asks(first.test.operand) and isinstance(first.body[0], ast.Return)
    return False


def is_iteration(body):
    def attribute(node):
        while isinstance(node, ast.Attribute):
            node = node.value
        return isinstance(node, ast.Name) and node.id == "self"
    first = body[0]
    if len(body) > 1 or isinstance(first, ast.Raise):
        return len(body) == 1
    value = first.value if isinstance(first, ast.Return) else None
    return is_call(value, "iter") and isinstance(value.args[0], ast.Attribute) and attribute(value.args[0])


def classes(package, path, tree):
    for node in ast.walk(tree):
        if not isinstance(node, ast.ClassDef):
            continue
        if node.decorator_list or node.keywords or not isinstance(package.parents[node], ast.Module):
            yield node.lineno, "L5", "a class with a decorator, a keyword, or not at module level"
        is_error = package.is_error(node.name)
        for base in node.bases:
            name = base.id if isinstance(base, ast.Name) else ""
            if name not in package.classes and (name not in ERRORS or name in ("StopIteration", "AttributeError")):
                yield node.lineno, "L5", "a base class that is neither an own one nor an error class"
        names = [part.name for part in node.body if isinstance(part, ast.FunctionDef)]
        for part in node.body:
            if isinstance(part, ast.Assign):
                if is_error or len(part.targets) != 1 or not is_plain(part.value, (), True):
                    yield part.lineno, "L5", "not a plain class value"
            elif isinstance(part, ast.FunctionDef):
                setter = part.decorator_list and isinstance(part.decorator_list[0], ast.Attribute)
                if names.count(part.name) > 1 + bool(setter) and not setter and part.name not in package.properties:
                    yield part.lineno, "L18", f"{part.name} is defined twice"
                if is_error and (part.decorator_list or part.name in OPERATORS):
                    yield part.lineno, "L5", "a decorator or an operator in an error class"
            elif not (isinstance(part, ast.Expr) and part.value in docstrings(tree)) and not isinstance(part, ast.Pass):
                yield part.lineno, "L5", "a statement in a class"
        stored = {part.attr for part in ast.walk(node) if isinstance(part, ast.Attribute)
                  and isinstance(part.ctx, ast.Store) and isinstance(part.value, ast.Name) and part.value.id == "self"}
        for name in sorted(stored & set(names)):
            yield node.lineno, "L18", f"{name} is a method and an attribute"


# L6, L7, L13, L20, L24: statements and expressions

def statements(package, path, tree):
    for node in ast.walk(tree):
        if isinstance(node, ast.stmt) and isinstance(package.function_around(node), ast.FunctionDef):
            if not isinstance(node, STATEMENTS):
                yield node.lineno, "L6", f"the statement {type(node).__name__}"
        if isinstance(node, ast.Expr) and not isinstance(node.value, (ast.Call, ast.Yield, ast.YieldFrom)):
            if node.value not in docstrings(tree):
                yield node.lineno, "L6", "an expression on its own"
        if isinstance(node, ast.Delete):
            for target in node.targets:
                if not isinstance(target, (ast.Name, ast.Subscript)):
                    yield node.lineno, "L6", "del of something else"
        if isinstance(node, (ast.Yield, ast.YieldFrom)) and not isinstance(package.parents[node], ast.Expr):
            yield node.lineno, "L23", "a yield that is no statement of its own"


def expressions(package, path, tree):
    lambdas = {}
    for node in ast.walk(tree):
        if isinstance(node, ast.Constant) and not isinstance(node.value, (int, str, bytes, type(None))):
            yield node.lineno, "L7", "a float, or another constant"
        if isinstance(node, ast.Constant) and type(node.value) is int and abs(node.value) >= 10 ** 900:
            yield node.lineno, "L27", "a number of more than 900 digits"
        if isinstance(node, (ast.BinOp, ast.AugAssign)):
            if isinstance(node.op, (ast.Div, ast.MatMult)):
                yield node.lineno, "L7", "the sign / or @"
            right = node.right if isinstance(node, ast.BinOp) else node.value
            if isinstance(node.op, ast.Pow) and not (isinstance(right, ast.Constant) and right.value in range(65)):
                yield node.lineno, "L27", "an exponent that is no literal from 0 to 64"
        if isinstance(node, (ast.Await, ast.NamedExpr)):
            yield node.lineno, "L7", "await or :="
        if isinstance(node, ast.Lambda):
            key = (node.lineno, tuple(part.arg for part in parameters(node)))
            if key in lambdas:
                yield node.lineno, "L13", "two lambdas with the same parameters on one line"
            lambdas[key] = node
        if isinstance(node, ast.Compare):
            for op, side in zip(node.ops, node.comparators):
                constant = isinstance(side, ast.Constant) and (side.value is None or isinstance(side.value, bool))
                if isinstance(op, (ast.Is, ast.IsNot)) and not constant:
                    yield node.lineno, "L20", "is without None, True or False"
        if isinstance(node, ast.GeneratorExp):
            call = package.parents[node]
            join = isinstance(call, ast.Call) and getattr(call.func, "attr", "") == "join"
            # Scenes have an __eq__, so sum, min, max, any, all and sorted take a list.
            if not (is_call(call, "list", "tuple", "dict") or join):
                yield node.lineno, "L7", "a generator expression"
        if isinstance(node, COMPREHENSIONS) and isinstance(package.function_around(node), ast.Module):
            yield node.lineno, "L7", "a comprehension outside of a function"
        if isinstance(node, ast.Starred) and isinstance(package.parents[node], ast.Call):
            call = package.parents[node]
            if not isinstance(node.value, (ast.Name, ast.Attribute)):
                yield node.lineno, "L7", "more than a name behind a star in a call"
            if isinstance(call.func, ast.Name) and call.func.id in BUILTINS and call.func.id not in ("max", "min", "zip"):
                yield node.lineno, "L7", "a star in the call of a builtin"
        if isinstance(node, ast.Starred):
            above = package.parents[node]
            index = isinstance(above, ast.Tuple) and isinstance(package.parents[above], ast.Subscript)
            if isinstance(above, ast.Set) or index:
                yield node.lineno, "L7", "a star in a set literal or an index"
        if is_set(node):
            yield from set_placed(package, node)


def is_set(node):
    return isinstance(node, (ast.Set, ast.SetComp)) or is_call(node, "set")


def set_placed(package, node):
    above = package.parents[node]
    while isinstance(above, ast.BinOp) and isinstance(above.op, (ast.Sub, ast.BitAnd, ast.BitOr, ast.BitXor)):
        above = package.parents[above]
    if isinstance(above, ast.Compare) or is_call(above, "sorted", "len"):
        return
    if isinstance(above, ast.Assign) and len(above.targets) == 1 and isinstance(above.targets[0], ast.Name):
        function = package.function_around(node)
        name = above.targets[0].id
        stores = [part for part in ast.walk(function) if isinstance(part, ast.Name) and part.id == name
                  and isinstance(part.ctx, ast.Store)]
        if len(stores) == 1:
            yield from set_used(package, function, name)
            return
    yield node.lineno, "L24", "a set where it may not stand"


def set_used(package, function, name):
    for node in ast.walk(function):
        if not (isinstance(node, ast.Name) and node.id == name and isinstance(node.ctx, ast.Load)):
            continue
        above = package.parents[node]
        grand = package.parents[above]
        method_call = isinstance(above, ast.Attribute) and above.attr in ("add", "discard") \
            and isinstance(grand, ast.Call) and isinstance(package.parents[grand], ast.Expr)
        test = isinstance(above, (ast.If, ast.While, ast.Assert, ast.BoolOp, ast.IfExp)) \
            or isinstance(above, ast.UnaryOp) and isinstance(above.op, ast.Not)
        if not (method_call or test or isinstance(above, ast.Compare) or is_call(above, "sorted", "len")):
            yield node.lineno, "L24", "a stored set is used in another way"


# L8, L12, L15, L17: names

def stored_names(function):
    """The names that a function binds, its parameters included, and those of the functions in it."""
    found = []
    for node in ast.walk(function):
        if isinstance(node, ast.Name) and isinstance(node.ctx, (ast.Store, ast.Del)):
            found.append((node.id, node.lineno))
        if isinstance(node, (ast.FunctionDef, ast.Lambda)):
            found += [(part.arg, node.lineno) for part in parameters(node)]
        if isinstance(node, ast.FunctionDef) and node is not function:
            found.append((node.name, node.lineno))
        if isinstance(node, ast.ExceptHandler) and node.name:
            found.append((node.name, node.lineno))
    return found


def top_functions(tree):
    """The functions at module level and the methods of classes there."""
    for node in tree.body:
        if isinstance(node, ast.FunctionDef):
            yield node
        if isinstance(node, ast.ClassDef):
            yield from [part for part in node.body if isinstance(part, ast.FunctionDef)]


def names(package, path, tree):
    top = bound_at_top(tree)
    kept = {alias.name for node in tree.body if isinstance(node, ast.ImportFrom) for alias in node.names}
    kept |= {node.name for node in tree.body if isinstance(node, ast.ClassDef)}
    for name in top:
        yield from name_bound(name, 1)
    for function in top_functions(tree):
        local = stored_names(function)
        for name, line in local:
            yield from name_bound(name, line)
            if name in kept:
                yield line, "L15", f"{name} is a class or an import of the file"
        known = {name for name, _ in local} | set(top)
        for node in ast.walk(function):
            if isinstance(node, ast.Name) and isinstance(node.ctx, ast.Load):
                if node.id == "_":
                    yield node.lineno, "L12", "_ is read"
                if node.id not in known and node.id not in BUILTINS:
                    yield node.lineno, "L8", f"the builtin {node.id}"
    for node in ast.walk(tree):
        if isinstance(node, ast.FunctionDef) and isinstance(package.parents[node], ast.ClassDef):
            if not node.name.startswith("__"):
                yield from name_spelled(node.name, node.lineno)
                if node.name in NOT_NAMED or node.name in BUILTINS or node.name == "register":
                    yield node.lineno, "L17", f"a method called {node.name}"
        if isinstance(node, ast.Attribute):
            yield from name_spelled(node.attr, node.lineno)
            if isinstance(node.ctx, ast.Store) and node.attr in NOT_ATTRIBUTES:
                yield node.lineno, "L26", f"an attribute called {node.attr}"
        if isinstance(node, ast.keyword) and node.arg and node.arg in NOWHERE:
            yield node.value.lineno, "L17", f"a keyword called {node.arg}"


def generators(package, path, tree):
    """No other function or method has a generator's name, and no name of a builtin value's method is one."""
    for node in ast.walk(tree):
        if isinstance(node, ast.FunctionDef) and node.name in package.generators:
            others = [part for part in package.path_around if isinstance(part, ast.FunctionDef)
                      and part.name == node.name]
            if len(others) > 1 or node.name in METHODS:
                yield node.lineno, "L23", f"the generator's name {node.name} has another meaning, too"


def name_spelled(name, line):
    if name.startswith("__") and name not in ("__init__", "__class__", "__name__"):
        yield line, "L8", f"the name {name}"
    elif not re.fullmatch(r"_|_?[A-Za-z][A-Za-z0-9_]*|__\w+__", name):
        yield line, "L12", f"the name {name}"
    if name in NOWHERE or FRAMES.fullmatch(name):
        yield line, "L17", f"the name {name}"
    if name.startswith(BAD_STARTS) or name.rstrip("0123456789_") in BAD_NAMES:
        yield line, "L12", f"the name {name}"


def name_bound(name, line):
    yield from name_spelled(name, line)
    if name in NOT_NAMED:
        yield line, "L17", f"the name {name}"
    if hasattr(builtins, name) or keyword.issoftkeyword(name) and name != "_":
        yield line, "L15", f"the name of a builtin, {name}"


# L8, L18, L22, L23, L25: calls

def calls(package, path, tree):
    for node in ast.walk(tree):
        if isinstance(node, ast.Call) and isinstance(node.func, ast.Name):
            yield from name_called(package, path, node)
        if isinstance(node, ast.Call) and isinstance(node.func, ast.Attribute):
            yield from method_called(package, node)
        if isinstance(node, ast.Call) and not isinstance(node.func, (ast.Name, ast.Attribute)):
            yield node.lineno, "L7", "a call of something else than a name or an attribute"
        if isinstance(node, ast.Attribute) and isinstance(node.ctx, ast.Load):
            above = package.parents[node]
            called = isinstance(above, ast.Call) and above.func is node
            known = package.attributes | set(package.methods) | package.class_values
            if not called and node.attr not in known and node.attr not in ("__class__", "__name__", "setter"):
                yield node.lineno, "L18", f"the attribute {node.attr} is assigned by no class"
        if isinstance(node, ast.Name) and isinstance(node.ctx, ast.Load):
            yield from name_read(package, node)
        if isinstance(node, ast.Call):
            yield from placed(package, node)


def name_called(package, path, node):
    name = node.func.id
    top = bound_at_top(package.trees[path])
    given = [word.arg for word in node.keywords]
    if name in BUILTINS and name not in top:
        for word in given:
            if word not in KEYWORDS.get(name, ()):
                yield node.lineno, "L22", f"the keyword {word} of {name}"
        if name in ERRORS and given:
            yield node.lineno, "L22", "a keyword of an error class"
    if name in top and package.function(path, name):
        yield from passed(node, package.function(path, name), 0)
    if name in top and name in package.classes:
        init = [part for part in package.classes[name].body if getattr(part, "name", "") == "__init__"]
        if init:
            yield from passed(node, init[0], 1)
        elif given or node.args and not package.is_error(name):
            yield node.lineno, "L22", f"arguments for {name}, which has no __init__"


def passed(node, function, skipped):
    """Whether a call passes what the function takes; calls with stars are let."""
    if any(isinstance(part, ast.Starred) for part in node.args) or any(word.arg is None for word in node.keywords):
        return
    spec = function.args
    plain = [part.arg for part in spec.posonlyargs + spec.args][skipped:]
    needed = plain[:len(plain) - len(spec.defaults)]
    only = [part.arg for part in spec.kwonlyargs]
    needed_only = [name for name, value in zip(only, spec.kw_defaults) if value is None]
    given = plain[:len(node.args)] + [word.arg for word in node.keywords]
    unknown = [name for name in given if name not in plain + only]
    too_many = len(node.args) > len(plain) and not spec.vararg
    lacking = [name for name in needed + needed_only if name not in given]
    if too_many or lacking or len(set(given)) < len(given) or unknown and not spec.kwarg:
        yield node.lineno, "L22", f"the call does not pass what {function.name} takes"


def method_called(package, node):
    name = node.func.attr
    if name in package.methods:
        own = package.methods[name]
        if name not in METHODS and len(own) == 1 and not name.startswith("__"):
            marks = [getattr(mark, "id", "") for mark in own[0].decorator_list]
            yield from passed(node, own[0], 0 if marks == ["staticmethod"] else 1)
        return
    if name == "format" and isinstance(node.func.value, ast.Constant):
        return
    if name in package.attributes or name == "__init__":
        return
    if name not in METHODS:
        yield node.lineno, "L25", f"the method {name}"
    if node.keywords:
        yield node.lineno, "L25", f"a keyword of the method {name}"


def name_read(package, node):
    above = package.parents[node]
    if node.id in package.classes or node.id in ERRORS:
        if isinstance(above, ast.Tuple):
            above = package.parents[above]
        ok = isinstance(above, ast.Call) and above.func is node or isinstance(above, (ast.ClassDef, ast.ExceptHandler)) \
            or is_call(above, "isinstance") or isinstance(above, ast.Attribute) or isinstance(above, ast.Raise)
        if not ok:
            yield node.lineno, "L18", f"the class {node.id} as a value"
    if node.id in BUILTINS and node.id not in ERRORS:
        called = isinstance(above, ast.Call) and above.func is node
        as_key = isinstance(above, ast.keyword) and above.arg == "key"
        kind = node.id in ("int", "str", "bool", "list", "tuple", "dict") and (
            is_call(above, "isinstance") or isinstance(above, ast.Tuple))
        mark = node.id in ("property", "classmethod", "staticmethod") and isinstance(above, ast.FunctionDef)
        mapped = is_call(above, "map") and above.args[0] is node
        not_implemented = node.id == "NotImplemented" and isinstance(above, ast.Return)
        if not (called or as_key or kind or mark or mapped or not_implemented):
            yield node.lineno, "L22", f"the builtin {node.id} as a value"


def placed(package, node):
    """What is iterated on the spot: zip and its kin, views of dicts, and generators (L23)."""
    view = isinstance(node.func, ast.Attribute) and node.func.attr in VIEWS and node.func.attr not in package.methods
    generator = isinstance(node.func, ast.Name) and node.func.id in package.generators \
        or isinstance(node.func, ast.Attribute) and node.func.attr in package.generators
    if not (view or generator or is_call(node, *LAZY, "range")):
        return
    above = package.parents[node]
    join = isinstance(above, ast.Call) and getattr(above.func, "attr", "") == "join"
    in_loop = isinstance(above, (ast.For, ast.comprehension)) and above.iter is node
    tested = is_call(node, "range") and (isinstance(above, ast.Compare) or is_call(above, "len", "reversed"))
    kept = isinstance(above, ast.Assign) and not generator and isinstance(above.targets[0], ast.Name)
    returned_whole = isinstance(above, ast.YieldFrom)
    if not (in_loop or join or tested or kept or returned_whole or is_call(above, *AT_ONCE)):
        yield node.lineno, "L23", "what is iterated at once stands elsewhere"
    if generator:
        # Scenes and bases have an __eq__, so sum, min, max, any, all and sorted take a list.
        if is_call(above, "sum", "min", "max", "any", "all", "sorted"):
            yield node.lineno, "L23", "a generator in a call that takes a list"
        given = [*node.args, *[word.value for word in node.keywords]]
        if not all(isinstance(part, (ast.Name, ast.Attribute, ast.Constant, ast.Lambda)) for part in given):
            yield node.lineno, "L23", "a generator is passed more than names, attributes and literals"


def properties(package, path, tree):
    """A property is assigned only where it has a setter, and no method or class value has its name (L5)."""
    for node in ast.walk(tree):
        name = node.attr if isinstance(node, ast.Attribute) else ""
        if name in package.properties and isinstance(node.ctx, (ast.Store, ast.Del)):
            if not any(isinstance(mark, ast.Attribute) for part in package.methods[name] for mark in part.decorator_list):
                yield node.lineno, "L5", f"the property {name} is assigned"
        if isinstance(node, ast.FunctionDef) and node.name in package.properties \
                and isinstance(package.parents[node], ast.ClassDef) and not node.decorator_list:
            yield node.lineno, "L5", f"{node.name} is a property and a method"
        if isinstance(node, ast.FunctionDef) and node.name in package.properties and node.name in METHODS:
            yield node.lineno, "L5", f"the property {node.name} has the name of a builtin value's method"
    for name in package.class_values & set(package.properties):
        yield 1, "L5", f"{name} is a property and a class value"


def loops(package, path, tree):
    """What a loop iterates over is not modified in it (L23)."""
    for node in ast.walk(tree):
        if not isinstance(node, ast.For):
            continue
        source = node.iter
        while isinstance(source, ast.Call) and source.args and is_call(source, "enumerate", "zip", "reversed"):
            source = source.args[0]
        if isinstance(source, ast.Call) and isinstance(source.func, ast.Attribute) and source.func.attr in VIEWS:
            source = source.func.value
        if not isinstance(source, (ast.Name, ast.Attribute)):
            continue
        text = ast.unparse(source)
        for part in [part for line in node.body for part in ast.walk(line)]:
            called = isinstance(part, ast.Call) and isinstance(part.func, ast.Attribute) \
                and part.func.attr in MODIFYING and ast.unparse(part.func.value) == text
            item = isinstance(part, ast.Subscript) and isinstance(part.ctx, (ast.Store, ast.Del)) \
                and ast.unparse(part.value) == text
            if called or item:
                yield part.lineno, "L23", f"{text} is modified in a loop over it"


# L19: errors

def errors(package, path, tree):
    for node in ast.walk(tree):
        if isinstance(node, ast.ExceptHandler):
            kinds = node.type.elts if isinstance(node.type, ast.Tuple) else [node.type]
            for kind in kinds:
                if not isinstance(kind, ast.Name) or kind.id not in CAUGHT and not package.is_error(kind.id):
                    yield node.lineno, "L19", "a handler for something else than an own error"
        if isinstance(node, ast.Raise) and node.exc is not None:
            call = node.exc
            name = call.func.id if isinstance(call, ast.Call) and isinstance(call.func, ast.Name) else ""
            if name not in ERRORS and not package.is_error(name):
                yield node.lineno, "L19", "raise of something else than an error that is created on the spot"
        if isinstance(node, ast.Raise) and node.exc is None:
            above = node
            while not isinstance(above, (ast.ExceptHandler, ast.FunctionDef, ast.Module)):
                above = package.parents[above]
            if not isinstance(above, ast.ExceptHandler):
                yield node.lineno, "L19", "a bare raise outside of a handler"


# L5: what operators and properties run changes nothing

def impure(package):
    roots = [part for name in [*OPERATORS, "__eq__", "__str__", "__repr__", "__len__"]
             for part in package.methods.get(name, ())]
    roots += [part for found in package.properties.values() for part in found]
    seen, queue = [], roots
    while queue:
        function = queue.pop()
        if function in seen:
            continue
        seen.append(function)
        queue = queue + called_by(package, function)
    for function in seen:
        for line, what in changes(package, function):
            yield package.path_around[function], line, "L5", f"{what} in what an operator or a property runs"


def called_by(package, function):
    found, path = [], package.path_around[function]
    for node in ast.walk(function):
        if isinstance(node, ast.Name) and isinstance(node.ctx, ast.Load):
            if package.function(path, node.id):
                found.append(package.function(path, node.id))
            if node.id in package.classes and is_call(package.parents[node], node.id):
                found += [part for part in package.classes[node.id].body if getattr(part, "name", "") == "__init__"]
        if isinstance(node, ast.Attribute) and node.attr in package.methods:
            found += package.methods[node.attr]
    return found


def created(function):
    """The local names that are assigned nothing but new lists, dicts and sets."""
    new, other = set(), {part.arg for part in parameters(function)}
    for node in ast.walk(function):
        if isinstance(node, ast.Assign) and isinstance(node.targets[0], ast.Name):
            value = node.value
            fresh = isinstance(value, (ast.List, ast.Dict, ast.Set, ast.ListComp, ast.DictComp, ast.SetComp)) \
                or is_call(value, "list", "dict", "set", "sorted") \
                or isinstance(value, ast.Subscript) and isinstance(value.slice, ast.Slice)
            (new if fresh and len(node.targets) == 1 else other).add(node.targets[0].id)
        elif isinstance(node, (ast.For, ast.comprehension, ast.Assign, ast.AugAssign, ast.With)):
            other |= {part.id for part in ast.walk(node) if isinstance(part, ast.Name)
                      and isinstance(part.ctx, ast.Store)} - new
    return new - other


def made(package, function):
    """The local names that are assigned once, a new object of an own class."""
    calls, stores = {}, [name for name, _ in stored_names(function)]
    for node in ast.walk(function):
        if isinstance(node, ast.Assign) and len(node.targets) == 1 and isinstance(node.targets[0], ast.Name):
            if is_call(node.value, *package.classes):
                calls[node.targets[0].id] = True
    return {name for name in calls if stores.count(name) == 1}


def changes(package, function):
    fresh, new = created(function), made(package, function)
    given = {part.arg for part in parameters(function)}
    first = parameters(function)[0].arg if parameters(function) else ""
    marks = [getattr(mark, "id", "") for mark in function.decorator_list]
    for node in ast.walk(function):
        if isinstance(node, ast.Attribute) and isinstance(node.ctx, (ast.Store, ast.Del)):
            of_name = node.value.id if isinstance(node.value, ast.Name) else ""
            if not (function.name == "__init__" and of_name == first) and of_name not in new:
                yield node.lineno, "an attribute is assigned"
        if isinstance(node, ast.Subscript) and isinstance(node.ctx, (ast.Store, ast.Del)):
            if not (isinstance(node.value, ast.Name) and node.value.id in fresh):
                yield node.lineno, "an item is assigned"
        if isinstance(node, ast.Call) and isinstance(node.func, ast.Attribute) and node.func.attr in MODIFYING:
            if not (isinstance(node.func.value, ast.Name) and node.func.value.id in fresh):
                yield node.lineno, f"{node.func.attr} is called"
        if isinstance(node, ast.Call) and isinstance(node.func, ast.Name) and node.func.id in given:
            if not (node.func.id == first and marks == ["classmethod"]):
                yield node.lineno, "a parameter is called"
        if isinstance(node, ast.AugAssign) and not isinstance(node.value, ast.Constant):
            yield node.lineno, "an assignment of the kind of +="
        if isinstance(node, (ast.Global, ast.Nonlocal)):
            yield node.lineno, "global or nonlocal"


# L6: with, and what an __exit__ does

def is_simple(node):
    """Whether it is a name, an attribute of one, a literal without a sign, or a list or tuple of such."""
    if isinstance(node, (ast.List, ast.Tuple)):
        return all(is_simple(part) for part in node.elts)
    while isinstance(node, ast.Attribute):
        node = node.value
    return isinstance(node, (ast.Name, ast.Constant))


def is_exit_row(node, given):
    """Whether a row may stand in an __exit__; the three things that it is given are not read."""
    if isinstance(node, ast.Pass):
        return True
    if isinstance(node, ast.Return):
        return node.value is None or isinstance(node.value, ast.Constant) and node.value.value in (None, False)
    if isinstance(node, ast.Assign):
        read = [part.id for part in ast.walk(node) if isinstance(part, ast.Name)]
        return len(node.targets) == 1 and is_simple(node.targets[0]) and is_simple(node.value) and not set(read) & given
    return False


def contexts(package, path, tree):
    for node in ast.walk(tree):
        if isinstance(node, ast.With):
            for item in node.items:
                if not isinstance(item.context_expr, (ast.Call, ast.Name, ast.Attribute)) \
                        or item.optional_vars is not None and not isinstance(item.optional_vars, ast.Name):
                    yield node.lineno, "L6", "a with over something else than a call, a name or an attribute"
        if isinstance(node, ast.FunctionDef) and node.name in ("__enter__", "__exit__"):
            names = [part.arg for part in parameters(node)]
            if len(names) != (1 if node.name == "__enter__" else 4) and node.args.vararg is None:
                yield node.lineno, "L6", f"the parameters of {node.name}"
            rows = node.body if node.name == "__exit__" else []
            for row in rows:
                if not is_exit_row(row, set(names[1:])):
                    yield row.lineno, "L6", "a row that may not stand in __exit__"


LOOKS = (contexts, characters, sizes, words, imports, module_level, functions, classes, statements, expressions, names, generators,
         calls, properties, loops, errors)

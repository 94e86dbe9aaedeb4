"""What a small script can see of the rules of the language; each complaint names its rule."""

import ast
import builtins
import io
import tokenize
import warnings

PACKAGE = "deedstand"
LIBRARY = {
    "heapq": {"heappush", "heappop", "heapify", "heapreplace", "heappushpop"},
    "math": {"gcd", "lcm", "isqrt", "comb", "perm", "factorial"},
    "itertools": {"product", "combinations", "permutations", "chain", "accumulate", "pairwise", "islice",
                  "zip_longest"},
    "collections": {"defaultdict"},
}
BUILTINS = set("""len range enumerate zip min max sum abs sorted reversed int str bool list tuple dict set
    isinstance ord repr any all divmod pow getattr hasattr setattr iter next map Exception ValueError TypeError
    KeyError IndexError LookupError ZeroDivisionError ArithmeticError OverflowError RuntimeError
    NotImplementedError AttributeError StopIteration NotImplemented super""".split())
METHODS = set("""append clear copy count endswith extend find get index insert isalnum isalpha isdigit islower
    isspace isupper items join keys ljust lower lstrip partition pop remove replace reverse rfind rjust
    rpartition rsplit rstrip setdefault split splitlines startswith strip update upper values zfill bit_length
    title capitalize swapcase casefold center expandtabs removeprefix removesuffix rindex isascii isdecimal
    isnumeric istitle isidentifier isprintable sort add discard""".split())
DUNDERS = set("__init__ __eq__ __repr__ __str__ __len__ __enter__ __exit__ __call__ __iter__".split())
NEVER = set("register mro elements open input law version_info with_traceback add_note format format_map".split())
NOT_NAMES = set("""attrgetter breakpoint builtins compile copyright credits delattr dir eval exec exit gc globals
    help id importlib license locals methodcaller os quit type vars sys _cold _tuplegetter _outside _record
    _written_out _member_names""".split())
WORDS = set("""type typing typing_extensions enum Enum IntEnum StrEnum Flag IntFlag Generic Protocol ABC ABCMeta
    namedtuple NamedTuple TypedDict TYPE_CHECKING abstractmethod dataclass overload contextmanager""".split())
STARTS = tuple("_wall _pe_ _dcw_ _enum_ _cm_ _twin_re_ _lay_ _law_ _stub_ _sre _WallAttr __".split())
NODES = {
    ast.Global: "L6", ast.AsyncFor: "L6", ast.AsyncFunctionDef: "L6", ast.AsyncWith: "L6", ast.Await: "L6",
    ast.AnnAssign: "L21", ast.Div: "L7", ast.MatMult: "L7", ast.Set: "L24", ast.SetComp: "L24", ast.Import: "L2",
    ast.Pow: "L27",
}


def is_builtin(name):
    """Whether a builtin has the name; a shell leaves its last value in _."""
    return name != "_" and hasattr(builtins, name)


def names_bound(node):
    """The names that a function's parameters and rows bind."""
    found = []
    for part in ast.walk(node):
        if isinstance(part, ast.arg):
            found.append(part.arg)
        elif isinstance(part, ast.Name) and not isinstance(part.ctx, ast.Load):
            found.append(part.id)
        elif isinstance(part, ast.ExceptHandler) and part.name:
            found.append(part.name)
        elif part is not node and isinstance(part, (ast.FunctionDef, ast.ClassDef)):
            found.append(part.name)
    return found


def is_plain(node):
    """Whether a value at module level is plain."""
    try:
        ast.literal_eval(node)
    except ValueError:
        return isinstance(node, (ast.Name, ast.BinOp, ast.Dict, ast.Tuple, ast.List))
    return True


def text_complaints(text):
    """L10, L14, L27: what the characters and lines of a file tell."""
    lines = text.split("\n")
    if len(lines) - 1 > 399:
        yield "L10 file too long"
    for number, line in enumerate(lines, 1):
        if len(line) > 120:
            yield f"L10 line {number} too long"
        if any(not " " <= sign <= "~" for sign in line):
            yield f"L14 line {number}: strange character"
    for token in tokenize.generate_tokens(io.StringIO(text).readline):
        if token.type == tokenize.STRING:
            yield from string_complaints(token.string, token.start[0])
        elif token.type == tokenize.NAME and token.string in WORDS:
            yield f"L17 line {token.start[0]}: {token.string}"
    for word in ("_wall", "_WallAttr"):
        if word in text:
            yield f"L12 {word}"


def string_complaints(written, number):
    """L27 and L17 for one string as it is written."""
    if "%" in written:
        yield f"L27 line {number}: percent sign"
    at = written.find("\\")
    while at >= 0:
        if written[at + 1] not in "nt\\\"'":
            yield f"L27 line {number}: escape"
        at = written.find("\\", at + 2)
    if written.strip("\"'").endswith(("._", ".__")) or "__" in written:
        yield f"L27 line {number}: underscores"
    if not written.startswith('"""') and WORDS & set(written.strip("\"'").split()):
        yield f"L17 line {number}: word"


def module_complaints(tree):
    """L3, L15: what stands at module level, each name once."""
    bound = []
    past_imports = False
    for at, node in enumerate(tree.body):
        if isinstance(node, ast.ImportFrom):
            bound += [alias.asname or alias.name for alias in node.names]
            if past_imports:
                yield f"L2 line {node.lineno}: import below other things"
            continue
        if at == 0 and isinstance(node, ast.Expr) and isinstance(node.value, ast.Constant):
            continue
        past_imports = True
        if isinstance(node, (ast.FunctionDef, ast.ClassDef)):
            bound.append(node.name)
        elif isinstance(node, ast.Assign) and len(node.targets) == 1 and isinstance(node.targets[0], ast.Name):
            bound.append(node.targets[0].id)
            if not is_plain(node.value):
                yield f"L3 line {node.lineno}: no plain value"
        else:
            yield f"L3 line {node.lineno}: statement at module level"
    for name in sorted(set(bound)):
        if bound.count(name) > 1:
            yield f"L15 {name} is bound twice"
        if is_builtin(name):
            yield f"L15 {name} is the name of a builtin"


def function_complaints(tree):
    """L4, L5, L10, L15, L21, L28: what functions, methods and classes look like."""
    taken = {node.name for node in tree.body if isinstance(node, ast.ClassDef)}
    for node in tree.body:
        if isinstance(node, ast.ImportFrom):
            taken |= {alias.asname or alias.name for alias in node.names}
    for node in ast.walk(tree):
        if not isinstance(node, (ast.FunctionDef, ast.Lambda)):
            continue
        where = f"line {node.lineno}"
        for name in names_bound(node):
            if is_builtin(name) or name in taken:
                yield f"L15 {where}: {name}"
        for arg in node.args.args + node.args.kwonlyargs:
            if arg.annotation:
                yield f"L21 {where}: annotation"
        if isinstance(node, ast.Lambda):
            continue
        if node.end_lineno - node.lineno + 1 > 40:
            yield f"L10 {where}: function too long"
        if node.decorator_list:
            yield f"L4 {where}: decorator"
        if node.returns:
            yield f"L21 {where}: annotation"
        if node.name.startswith("__") and node.name not in DUNDERS:
            yield f"L5 {where}: {node.name}"


def name_complaints(tree):
    """L8, L12, L17: what things are called, and which builtins are used."""
    known = set(names_bound(tree)) | BUILTINS
    for node in tree.body:
        if isinstance(node, ast.ImportFrom):
            known |= {alias.asname or alias.name for alias in node.names}
    for node in ast.walk(tree):
        name = None
        if isinstance(node, ast.Name):
            name = node.id
            if isinstance(node.ctx, ast.Load) and name not in known:
                yield f"L8 line {node.lineno}: {name}"
        elif isinstance(node, ast.arg):
            name = node.arg
        elif isinstance(node, (ast.FunctionDef, ast.ClassDef)):
            name = node.name
        elif isinstance(node, ast.Attribute) and node.attr not in ("__class__", "__name__", "__init__"):
            name = node.attr
        elif isinstance(node, ast.keyword):
            name = node.arg
        if name is None or name in DUNDERS and isinstance(node, ast.FunctionDef):
            continue
        if name.startswith(STARTS) or name in NEVER or not name.isascii():
            yield f"L12 or L17 line {node.lineno}: {name}"
        if name in NOT_NAMES and not isinstance(node, ast.Attribute):
            yield f"L17 line {node.lineno}: {name}"


def node_complaints(tree, methods):
    """L2, L6, L7, L20, L24, L25, L27: what single expressions and statements may be."""
    for node in ast.walk(tree):
        where = f"line {getattr(node, 'lineno', 0)}"
        if type(node) in NODES:
            yield f"{NODES[type(node)]} {where}: {type(node).__name__}"
        if isinstance(node, ast.Constant) and isinstance(node.value, (float, complex)):
            yield f"L7 {where}: float"
        if isinstance(node, ast.Call) and isinstance(node.func, ast.Attribute):
            if node.func.attr not in METHODS and node.func.attr not in methods and node.func.attr != "__init__":
                yield f"L25 {where}: {node.func.attr}"
        if isinstance(node, ast.Compare):
            for sign, side in zip(node.ops, node.comparators):
                if isinstance(sign, (ast.Is, ast.IsNot)):
                    if not (isinstance(side, ast.Constant) and side.value in (None, True, False)):
                        yield f"L20 {where}: is"
        if isinstance(node, ast.Raise) and node.exc is not None and not isinstance(node.exc, ast.Call):
            yield f"L19 {where}: raise"
        if isinstance(node, ast.GeneratorExp):
            yield f"L7 {where}: generator expression; a list comprehension is plainer"
        if isinstance(node, ast.ExceptHandler) and node.type is None:
            yield f"L6 {where}: except without an error"


def methods_of(trees):
    """The names of all methods of all classes."""
    return {part.name for tree in trees.values() for node in ast.walk(tree) if isinstance(node, ast.ClassDef)
            for part in node.body if isinstance(part, ast.FunctionDef)}


def top_names(tree):
    """The names that a file defines at module level."""
    names = {node.name for node in tree.body if isinstance(node, (ast.FunctionDef, ast.ClassDef))}
    return names | {node.targets[0].id for node in tree.body if isinstance(node, ast.Assign)}


def import_complaints(trees):
    """L2, L16: what is imported, from the very file that defines it, and in no circle."""
    leads = {}
    for module, tree in trees.items():
        leads[module] = []
        used = {node.id for node in ast.walk(tree) if isinstance(node, ast.Name)}
        for node in tree.body:
            if not isinstance(node, ast.ImportFrom):
                continue
            names = [alias.name for alias in node.names]
            if node.level or "*" in names or any(alias.asname for alias in node.names):
                yield f"L2 {module}: form of import"
            if node.module in LIBRARY:
                if not set(names) <= LIBRARY[node.module]:
                    yield f"L2 {module}: {names}"
                continue
            whole = node.module or ""
            if not whole.startswith(PACKAGE + ".") or whole[len(PACKAGE) + 1:] not in trees:
                yield f"L2 {module}: {whole}"
                continue
            leads[module].append(whole[len(PACKAGE) + 1:])
            missing = set(names) - top_names(trees[leads[module][-1]])
            if missing:
                yield f"L16 {module}: {sorted(missing)} not defined there"
            if set(names) - used:
                yield f"L16 {module}: {sorted(set(names) - used)} not used"
    for module in leads:
        reached, due = set(), list(leads[module])
        while due:
            now = due.pop()
            if now not in reached:
                reached.add(now)
                due += leads.get(now, [])
        if module in reached:
            yield f"L16 {module} imports itself, through others"


def generator_complaints(trees):
    """L23: no other function or method has the name of a generator."""
    names, generators = [], []
    for tree in trees.values():
        for node in ast.walk(tree):
            if isinstance(node, ast.FunctionDef):
                names.append(node.name)
                if any(isinstance(part, (ast.Yield, ast.YieldFrom)) for part in ast.walk(node)):
                    generators.append(node.name)
    for name in generators:
        if names.count(name) > 1:
            yield f"L23 {name} is no generator's name alone"


def class_complaints(trees):
    """L18: no name is a method and an attribute in one class, or in a class and one above or below it."""
    methods, attributes, bases = {}, {}, {}
    for tree in trees.values():
        for node in ast.walk(tree):
            if isinstance(node, ast.ClassDef):
                methods[node.name] = {part.name for part in node.body if isinstance(part, ast.FunctionDef)}
                attributes[node.name] = {part.attr for part in ast.walk(node) if isinstance(part, ast.Attribute)
                                         and isinstance(part.ctx, ast.Store)}
                bases[node.name] = [base.id for base in node.bases if isinstance(base, ast.Name)]
    for name in methods:
        family, due = set(), [name]
        while due:
            now = due.pop()
            if now in methods and now not in family:
                family.add(now)
                due += bases[now]
        for one in family:
            for other in family:
                for both in sorted(methods[one] & attributes[other]):
                    yield f"L18 {both} is a method of {one} and an attribute in {other}"


def complaints(texts):
    """All complaints about a package, a dict from module names to the texts of its files."""
    found = []
    if len(texts) > 100:
        found.append("L14 too many files")
    trees = {}
    for module, text in texts.items():
        if not module.replace("_", "a").isalnum() or module != module.lower():
            found.append(f"L1 {module}")
        with warnings.catch_warnings():
            warnings.simplefilter("error")
            try:
                compile(text, module, "exec")
            except (SyntaxError, SyntaxWarning) as error:
                found.append(f"L27 {module}: {error}")
                continue
        trees[module] = ast.parse(text)
    methods = methods_of(trees)
    for module, tree in trees.items():
        parts = [text_complaints(texts[module]), module_complaints(tree), function_complaints(tree),
                 name_complaints(tree), node_complaints(tree, methods)]
        found += [f"{module}: {complaint}" for part in parts for complaint in part]
    found += list(import_complaints(trees)) + list(generator_complaints(trees))
    found += list(class_complaints(trees))
    return found

"""What a script can see of LANGUAGE.md: each check returns a list of complaints."""

import ast
import builtins
import re

BUILTINS = """len range enumerate zip min max sum abs sorted reversed int str bool bytes list tuple dict set frozenset
isinstance ord repr any all divmod Exception ValueError TypeError KeyError IndexError LookupError ZeroDivisionError
ArithmeticError OverflowError RuntimeError NotImplementedError AttributeError StopIteration NotImplemented map iter next
property staticmethod classmethod super""".split()
METHODS = """append clear copy count endswith extend find get index insert isalnum isalpha isdigit islower isspace
isupper items join keys ljust lower lstrip partition pop remove replace reverse rfind rjust rpartition rsplit rstrip
setdefault split splitlines startswith strip update upper values zfill bit_length title capitalize swapcase casefold
center expandtabs removeprefix removesuffix rindex isascii isdecimal isnumeric istitle isidentifier isprintable
translate add discard hex decode encode""".split()
LIBRARY = {
    "heapq": ["heappush", "heappop", "heapify", "heapreplace", "heappushpop"],
    "math": ["gcd", "lcm", "isqrt", "comb", "perm", "factorial"],
}
DOUBLE = """init eq repr str len enter exit call iter lt le gt ge ne add sub mul floordiv mod pow and or xor lshift
rshift radd rsub rmul rfloordiv rmod rand ror rxor rlshift rrshift iadd isub imul ifloordiv imod iand ior ixor ilshift
irshift neg pos invert abs bool contains getitem setitem""".split()
UNUSED = """register mro elements open input law version_info with_traceback add_note attrgetter breakpoint builtins
compile copyright credits delattr dir eval exec exit gc getattr globals hasattr help id importlib license locals
methodcaller os quit setattr type vars sys format format_map""".split()
WORDS = """typing typing_extensions enum Enum IntEnum StrEnum Flag IntFlag Generic Protocol ABC ABCMeta namedtuple
NamedTuple TypedDict TYPE_CHECKING abstractmethod""".split()
PREFIXES = ("(_wall|_pe_|_dcw_|_enum_|_cm_|_twin_re_|_lay_|_law_|_stub_|_sre|_WallAttr)"
            "|(_cold|_tuplegetter|_outside|_record|_written_out|_member_names)[0-9_]*$")
# A shell and doctest put "_" among the builtins.
ALL_BUILTINS = [name for name in dir(builtins) if name != "_"]
BARRED = (ast.AsyncFunctionDef, ast.Global, ast.Await, ast.AsyncFor, ast.AsyncWith, ast.GeneratorExp)
FUNCTIONS = (ast.FunctionDef, ast.AsyncFunctionDef)
LOOPS = (ast.For, ast.ListComp, ast.DictComp, ast.SetComp)
CHANGING = "append clear extend insert pop remove reverse setdefault update sort add discard".split()


def folder_complaints(folder):
    """L1, L14: the folder holds .py files with plain names alone."""
    found = []
    for path in sorted(folder.rglob("*")):
        # Python itself makes this folder, and git does not track it.
        if "__pycache__" in path.relative_to(folder).parts:
            continue
        if path.is_dir() or path.is_symlink() or not re.fullmatch(r"[a-z_][a-z0-9_]*\.py", path.name):
            found.append(f"L1 {path.name}")
    if not (folder / "__init__.py").is_file():
        found.append("L14 __init__.py")
    return found


def text_complaints(data):
    """L10, L12, L14, L27: the size of a file, given as bytes, and of its lines, and its characters."""
    found = []
    lines = data.split(b"\n")
    if len(lines) - (lines[-1] == b"") > 399:
        found.append("L10 lines of the file")
    for number, line in enumerate(lines, start=1):
        if len(line) > 120:
            found.append(f"L10 length of line {number}")
        if b"\t" in line:
            found.append(f"L10 tab in line {number}")
        if any(not 32 <= code <= 126 and code != 9 for code in line):
            found.append(f"L14 character in line {number}")
        if re.search(rb"\b_wall\b|\b_WallAttr\b", line):
            found.append(f"L12 word in line {number}")
        if re.search(rb"\(type\)|Meta|metaclass=|dataclass|overload|contextmanager", line):
            found.append(f"L17 word in line {number}")
    return found


def function_complaints(tree):
    """L4, L10, L12: the size of functions, their decorators and names."""
    found = []
    for part in ast.walk(tree):
        if isinstance(part, FUNCTIONS):
            if part.end_lineno - part.lineno + 1 > 40:
                found.append(f"L10 lines of {part.name}")
            if part.decorator_list:
                found.append(f"L4 decorator over {part.name}")
            if part.name.startswith("__") and part.name[2:-2] not in DOUBLE:
                found.append(f"L5 {part.name}")
    return found


def module_complaints(tree):
    """L3: what stands at module level."""
    found = []
    for at, part in enumerate(tree.body):
        docstring = at == 0 and isinstance(part, ast.Expr) and isinstance(part.value, ast.Constant)
        defined = isinstance(part, (ast.ImportFrom, ast.FunctionDef, ast.ClassDef))
        if not docstring and not defined and not is_plain_assignment(part):
            found.append(f"L3 line {part.lineno}")
    return found


def is_plain_assignment(part):
    """Return whether a statement assigns a plain value to one name."""
    if not isinstance(part, ast.Assign) or len(part.targets) != 1 or not isinstance(part.targets[0], ast.Name):
        return False
    computed = (ast.Call, ast.ListComp, ast.DictComp, ast.SetComp, ast.Set, ast.Lambda)
    return not any(isinstance(inner, computed) for inner in ast.walk(part.value))


def import_complaints(tree, defined):
    """L2, L16: imports stand at the top, and name the very file that defines the name."""
    found = []
    top = True
    for part in tree.body:
        if isinstance(part, ast.ImportFrom):
            known = LIBRARY.get(part.module) or defined.get(part.module, [])
            wrong = [one.name for one in part.names if one.name not in known or one.asname]
            if part.level or wrong or not top:
                found.append(f"L2 line {part.lineno}")
        elif not isinstance(part, ast.Expr):
            top = False
    inner = [part for part in ast.walk(tree) if isinstance(part, (ast.Import, ast.ImportFrom)) and part not in tree.body]
    return found + [f"L2 line {part.lineno}" for part in inner]


def circle_complaints(imported):
    """L16: no two files import from each other, also not through others."""
    left = {name: {one for one in told if one in imported} for name, told in imported.items()}
    while left:
        free = [name for name in left if not left[name] & set(left)]
        if not free:
            return [f"L16 {sorted(left)}"]
        for name in free:
            del left[name]
    return []


def value_complaints(tree):
    """L6, L7, L13, L27: expressions and statements that are not in the subset."""
    found = []
    for part in ast.walk(tree):
        line = getattr(part, "lineno", 0)
        if isinstance(part, BARRED):
            found.append(f"L6 or L7 line {line}")
        if isinstance(part, ast.Constant) and isinstance(part.value, (float, complex)):
            found.append(f"L7 float in line {line}")
        if isinstance(part, ast.Constant) and isinstance(part.value, str) and "%" in part.value:
            found.append(f"L27 sign in line {line}")
        if isinstance(part, (ast.BinOp, ast.AugAssign)) and isinstance(part.op, (ast.Div, ast.MatMult)):
            found.append(f"L7 line {line}")
        if isinstance(part, ast.BinOp) and isinstance(part.op, ast.Pow) and not isinstance(part.right, ast.Constant):
            found.append(f"L27 power in line {line}")
        if isinstance(part, ast.ExceptHandler) and (part.type is None or "Exception" in ast.unparse(part.type)):
            found.append(f"L19 line {line}")
    return found


def bound_names(tree):
    """Return the names that a file binds, with their lines: variables, parameters, functions, classes, imports."""
    found = []
    for part in ast.walk(tree):
        if isinstance(part, ast.Name) and not isinstance(part.ctx, ast.Load):
            found.append((part.id, part.lineno))
        if isinstance(part, ast.arg):
            found.append((part.arg, part.lineno))
        if isinstance(part, ast.ClassDef):
            found.append((part.name, part.lineno))
            methods = [inner for inner in part.body if isinstance(inner, FUNCTIONS)]
            for inner in methods:
                inner.is_method = True
        if isinstance(part, FUNCTIONS) and not hasattr(part, "is_method"):
            found.append((part.name, part.lineno))
        if isinstance(part, ast.alias):
            found.append((part.asname or part.name, part.lineno))
    return found


def name_complaints(tree):
    """L8, L12, L15, L17: names that are bound, and builtins that are used."""
    found = []
    for name, line in bound_names(tree):
        if name in ALL_BUILTINS or name in UNUSED or name in WORDS or not re.fullmatch(r"_|_?[A-Za-z]\w*", name):
            found.append(f"L15 or L17 {name} in line {line}")
    for part in ast.walk(tree):
        if isinstance(part, ast.Name) and isinstance(part.ctx, ast.Load):
            if part.id in ALL_BUILTINS and part.id not in BUILTINS:
                found.append(f"L8 {part.id} in line {part.lineno}")
            if part.id == "_":
                found.append(f"L12 _ in line {part.lineno}")
    return found


def shadow_complaints(tree):
    """L15: no parameter, variable or nested function has the name of a class or an import of its file."""
    taken = {alias.name for part in tree.body if isinstance(part, ast.ImportFrom) for alias in part.names}
    taken |= {part.name for part in tree.body if isinstance(part, ast.ClassDef)}
    found = []
    for function in ast.walk(tree):
        if isinstance(function, (*FUNCTIONS, ast.Lambda)):
            for part in ast.walk(function):
                named = isinstance(part, ast.Name) and not isinstance(part.ctx, ast.Load) and part.id in taken
                nested = isinstance(part, FUNCTIONS) and part is not function and part.name in taken
                if named or nested or isinstance(part, ast.arg) and part.arg in taken:
                    found.append(f"L15 line {part.lineno}")
    return found


def prefix_complaints(tree):
    """L12: what names must not begin with."""
    return [f"L12 {name} in line {line}" for name, line in bound_names(tree) if re.match(PREFIXES, name)]


def lambda_complaints(tree):
    """L13: two lambdas with the same parameters do not stand on one line."""
    told = [(part.lineno, ast.unparse(part.args)) for part in ast.walk(tree) if isinstance(part, ast.Lambda)]
    return [f"L13 line {line}" for line, parameters in set(told) if told.count((line, parameters)) > 1]


def star_complaints(tree):
    """L7: behind a star in a call stand only names, attributes, literals, and lists, tuples and dicts of these."""
    plain = (ast.Name, ast.Attribute, ast.Constant, ast.List, ast.Tuple, ast.Dict, ast.Starred, ast.Load)
    found = []
    for part in ast.walk(tree):
        if isinstance(part, ast.Call):
            starred = [one for one in part.args if isinstance(one, ast.Starred)]
            starred += [one.value for one in part.keywords if one.arg is None]
            if not all(isinstance(inner, plain) for one in starred for inner in ast.walk(one)):
                found.append(f"L7 line {part.lineno}")
    return found


def generator_complaints(tree, generators):
    """L23: what a generator gives is iterated on the spot, and a yield is a statement of its own."""
    parents = {inner: part for part in ast.walk(tree) for inner in ast.iter_child_nodes(part)}
    places = "list tuple dict sorted sum min max any all enumerate zip".split()
    found = []
    for part in ast.walk(tree):
        if isinstance(part, (ast.Yield, ast.YieldFrom)) and not isinstance(parents[part], ast.Expr):
            found.append(f"L23 line {part.lineno}")
        if isinstance(part, ast.Name) and isinstance(part.ctx, ast.Load) and part.id in generators:
            call = parents[part]
            above = parents[call]
            walked = isinstance(above, (ast.For, ast.comprehension)) and above.iter is call
            given = isinstance(above, ast.Call) and isinstance(above.func, ast.Name) and above.func.id in places
            if not isinstance(call, ast.Call) or call.func is not part or not (walked or given):
                found.append(f"L23 {part.id} in line {part.lineno}")
    return found


def generator_names(trees):
    """Return the names of the functions of the package that yield."""
    functions = [part for tree in trees for part in ast.walk(tree) if isinstance(part, FUNCTIONS)]
    yields = (ast.Yield, ast.YieldFrom)
    return {part.name for part in functions if any(isinstance(inner, yields) for inner in ast.walk(part))}


def own_names(trees):
    """Return the names of all functions and methods of the package."""
    return {part.name for tree in trees for part in ast.walk(tree) if isinstance(part, FUNCTIONS)}


def method_complaints(tree, own):
    """L5, L25, L26: methods that are called and attributes that are named."""
    found = []
    for part in ast.walk(tree):
        if isinstance(part, ast.Call) and isinstance(part.func, ast.Attribute):
            name = part.func.attr
            if name not in METHODS and name not in own:
                found.append(f"L25 {name} in line {part.lineno}")
        if isinstance(part, ast.Attribute) and part.attr.startswith("__") and part.attr != "__init__":
            found.append(f"L8 {part.attr} in line {part.lineno}")
        if isinstance(part, ast.Attribute) and isinstance(part.ctx, ast.Store) and part.attr in METHODS:
            if part.attr not in "count index title find get join lower upper split strip copy add".split():
                found.append(f"L26 {part.attr} in line {part.lineno}")
    return found


def set_complaints(tree):
    """L24: a set is not iterated, and is written in few places only."""
    parents = {inner: part for part in ast.walk(tree) for inner in ast.iter_child_nodes(part)}
    found = []
    for part in ast.walk(tree):
        called = isinstance(part, ast.Call) and isinstance(part.func, ast.Name) and part.func.id == "set"
        if called or isinstance(part, (ast.Set, ast.SetComp)):
            above = parents[part]
            while isinstance(above, ast.BinOp):
                above = parents[above]
            place = above.func.id if isinstance(above, ast.Call) and isinstance(above.func, ast.Name) else ""
            if place not in ("sorted", "len") and not isinstance(above, (ast.Compare, ast.Assign)):
                found.append(f"L24 line {part.lineno}")
    return found


def walk_complaints(tree):
    """L5, L23: what a loop walks is not changed in it, by its name or by a name that it was given elsewhere."""
    found = []
    for function in ast.walk(tree):
        if isinstance(function, FUNCTIONS):
            names = names_given(function)
            for loop in ast.walk(function):
                if isinstance(loop, LOOPS):
                    walked = {names.get(base, base) for base in bases_walked(loop)}
                    changed = {names.get(base, base) for base in bases_changed(loop)}
                    if walked & changed:
                        found.append(f"L23 line {loop.lineno}")
    return found


def names_given(function):
    """Return a dict from the names that are given to each other in a function to one of them."""
    names = {}
    for part in ast.walk(function):
        if isinstance(part, ast.Assign):
            for target in part.targets:
                for one, other in pairs_assigned(target, part.value):
                    for base in bases_of(other):
                        old, new = names.get(base, base), names.get(one, one)
                        names.update({name: new for name in [*names, base, one] if names.get(name, name) in (old, new)})
    return names


def pairs_assigned(target, value):
    """Return the list of the tuples of a name and the value that is assigned to it."""
    if isinstance(target, (ast.Tuple, ast.List)) and isinstance(value, (ast.Tuple, ast.List)):
        pairs = zip(target.elts, value.elts)
        return [pair for one, other in pairs for pair in pairs_assigned(one, other)]
    # What is put into a list or a dict is no other name of it.
    return [(ast.unparse(target), value)] if isinstance(target, (ast.Name, ast.Attribute)) else []


def bases_of(part):
    """Return the list of the names and attributes of which a value, its items left out, may be one."""
    if isinstance(part, (ast.Name, ast.Attribute)):
        return [ast.unparse(part)]
    if isinstance(part, (ast.Subscript, ast.Starred)):
        return bases_of(part.value)
    if isinstance(part, ast.IfExp):
        return [*bases_of(part.body), *bases_of(part.orelse)]
    if isinstance(part, ast.BoolOp):
        return [base for one in part.values for base in bases_of(one)]
    if isinstance(part, ast.Call) and isinstance(part.func, ast.Attribute):
        if part.func.attr in ("items", "keys", "values", "setdefault", "get"):
            return bases_of(part.func.value)
    if isinstance(part, ast.Call) and isinstance(part.func, ast.Name):
        if part.func.id in ("enumerate", "zip", "reversed", "iter"):
            return [base for one in part.args for base in bases_of(one)]
    return []


def bases_walked(loop):
    """Return the list of the names and attributes that a loop or a comprehension walks."""
    walks = [loop.iter] if isinstance(loop, ast.For) else [part.iter for part in loop.generators]
    return [base for walk in walks for base in bases_of(walk)]


def bases_changed(loop):
    """Return the list of the names and attributes that are changed in a loop or a comprehension."""
    found = []
    for part in ast.walk(loop):
        if isinstance(part, ast.Call) and isinstance(part.func, ast.Attribute) and part.func.attr in CHANGING:
            found.extend(bases_of(part.func.value))
        if isinstance(part, ast.Subscript) and not isinstance(part.ctx, ast.Load):
            found.extend(bases_of(part.value))
        if isinstance(part, ast.AugAssign):
            found.extend(bases_of(part.target))
    return found

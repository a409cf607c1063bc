"""Which rows of a class's `__exit__`, and of what it calls, the language does not let stand there."""

import ast


def is_plain(node):
    """Whether a value is written of names, attributes and literals alone, as `__exit__` may store it."""
    if isinstance(node, ast.Attribute):
        return is_plain(node.value)
    if isinstance(node, (ast.Tuple, ast.List)):
        return all(is_plain(item) for item in node.elts)
    if isinstance(node, ast.BinOp) and isinstance(node.op, ast.Sub):
        return is_plain(node.left) and isinstance(node.right, ast.Constant) and type(node.right.value) is int
    if isinstance(node, ast.BinOp) and isinstance(node.op, ast.Add):
        return is_plain(node.left) and is_plain(node.right)
    return isinstance(node, (ast.Name, ast.Constant))


def is_test_of_exit(node):
    """Whether a test asks names and attributes alone, or whether they are None."""
    if isinstance(node, ast.BoolOp):
        return all(is_test_of_exit(below) for below in node.values)
    if isinstance(node, ast.UnaryOp):
        return isinstance(node.op, ast.Not) and is_test_of_exit(node.operand)
    if isinstance(node, ast.Compare):
        if len(node.ops) != 1 or not isinstance(node.ops[0], (ast.Is, ast.IsNot)):
            return False
        return is_test_of_exit(node.left) and isinstance(node.comparators[0], ast.Constant) and node.comparators[0].value is None
    return isinstance(node, (ast.Name, ast.Attribute)) and is_plain(node)


def naming_of_own(row):
    """Whether a row gives a local name to an attribute of `self`."""
    return (
        isinstance(row, ast.Assign) and len(row.targets) == 1 and isinstance(row.targets[0], ast.Name)
        and isinstance(row.value, ast.Attribute) and isinstance(row.value.value, ast.Name) and row.value.value.id == "self"
    )


def is_row_of_exit(row):
    """Whether a row that is neither an `if` nor a naming may stand in `__exit__` and in what it calls."""
    if isinstance(row, ast.Assign):
        return len(row.targets) == 1 and isinstance(row.targets[0], ast.Attribute) and is_plain(row.targets[0]) and is_plain(row.value)
    if isinstance(row, ast.AugAssign):
        return (
            isinstance(row.target, ast.Attribute) and isinstance(row.op, (ast.Add, ast.Sub)) and isinstance(row.value, ast.Constant)
        )
    if isinstance(row, ast.Expr) and isinstance(row.value, ast.Call) and isinstance(row.value.func, ast.Attribute):
        return row.value.func.attr in ("append", "clear") and all(is_plain(item) for item in row.value.args)
    if isinstance(row, ast.Return):
        return row.value is None or isinstance(row.value, ast.Constant) and any(row.value.value is told for told in (None, False))
    return isinstance(row, ast.Pass)


def called_method(row, methods):
    """The method of the same class that a row calls without arguments, None if it is no such row."""
    if not isinstance(row, ast.Expr) or not isinstance(row.value, ast.Call) or row.value.args or row.value.keywords:
        return None
    called = row.value.func
    if isinstance(called, ast.Attribute) and isinstance(called.value, ast.Name) and called.value.id == "self":
        return methods.get(called.attr)
    return None


def faults_of_exit(rows, methods, namings):
    """The numbers of the rows that may not stand in `__exit__`, in which so many namings may."""
    faults = []
    for row in rows:
        if isinstance(row, ast.If):
            faults += [] if is_test_of_exit(row.test) else [row.lineno]
            faults += faults_of_exit(row.body + row.orelse, methods, 0)
        elif naming_of_own(row) and namings:
            namings -= 1
        elif called_method(row, methods):
            faults += [row.lineno] if faults_of_exit(called_method(row, methods).body, {}, 0) else []
        elif not is_row_of_exit(row):
            faults.append(row.lineno)
    return faults


def reads_of_what_came(node):
    """The numbers of the rows in which `__exit__` reads what it is handed otherwise than by `kind is None`."""
    handed = [given.arg for given in node.args.args[1:]]
    asked = [
        below.left for below in ast.walk(node)
        if isinstance(below, ast.Compare) and isinstance(below.left, ast.Name) and below.left.id == handed[0]
    ]
    return [
        below.lineno for below in ast.walk(node)
        if isinstance(below, ast.Name) and below.id in handed and below not in asked
    ]


def faults_of_class(node):
    """The numbers of the rows of a class by which its `__exit__` does more than store plain values."""
    methods = {below.name: below for below in node.body if isinstance(below, ast.FunctionDef)}
    if "__exit__" not in methods:
        return []
    met = methods["__exit__"]
    return faults_of_exit(met.body, methods, 1) + reads_of_what_came(met)

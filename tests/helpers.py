"""What the tests share: transcripts, odd values, lists for tuples, a search for layings."""

import copy

STEPS = ((1, 0), (0, 1), (-1, 0), (0, -1))

FLOORS = [(m, n) for m in range(1, 9) for n in range(1, 9)]
FEW_LAYINGS = {(1, 1): 2, (1, 2): 6, (1, 3): 18, (1, 4): 54, (1, 5): 162, (2, 2): 84, (2, 3): 1182}
FEW_LAYINGS.update({(n, m): many for (m, n), many in list(FEW_LAYINGS.items())})

# Values of all kinds, none of which is a FLOOR, a pair of numbers, a FACE, a TIE, a PIECE,
# a set of any of these, a WAY or a MOVE: unfit wherever one of these is asked for.
ODD = [
    None, True, False, -1, 8, 10 ** 40, "", "rim", "ab", "abc", b"ab", 1.5, {}, {1: 2}, {1, 2}, range(2),
    (True, 1), (1, True), (1, False), ("1", "1"), (1, None), (1, "dot"), ((1,), 1), [None, 1], (1.0, 1),
    (None,), [True], [["rim"]], ("rim", 0), ("rim", 0, 0), ("dot",), ("dot", 0), ("dot", 0, True), ("dot", 0, "0"),
    ("dot", 0, 0, 0), ("dots", 0, 0), (0, 0, 0, 0), (0, 0, 4), (0, 0, -1), (0, True, 0), (0, 0, False), ((),), [[]],
    ((0, 0), (0, True)), ((0, 0), None), ((0, 0), (1, 0, 0)), (((0, 0), (0, 1)), ((0, 0), (0, True))),
    ((0, 1, 0), (1, 0, 4)), ((0, 1, 0), None), ((0, 1, 0), (True, 3, 3)),
]


def deep(levels):
    """A list in a list in a list, so many levels."""
    value = []
    for _ in range(levels):
        value = [value]
    return value


ODD.append(deep(20))
ODD.append(deep(5000))


def listed(value):
    """The value with lists in the place of tuples, at any depth."""
    if isinstance(value, (list, tuple)):
        return [listed(item) for item in value]
    return value


def told_error(error):
    """An error as the document's examples tell it."""
    told = ", ".join(f"{name}={value!r}" for name, value in vars(error).items())
    return f"raises {type(error).__name__}({told})"


def outcome(code, names):
    """What the document's example would show for this line of code."""
    try:
        return repr(eval(code, names))
    except SyntaxError:
        exec(code, names)
        return ""
    except (LookupError, ValueError) as error:
        return told_error(error)


def check_transcript(case, transcript, modules):
    """Run a transcript, lines of code with what they show, with the names of these modules."""
    names = {}
    for module in modules:
        names.update({name: value for name, value in vars(module).items() if not name.startswith("_")})
    rows = [row.strip() for row in transcript.strip().split("\n")]
    for at, row in enumerate(rows):
        if row.startswith(">>> "):
            shown = rows[at + 1] if at + 1 < len(rows) and not rows[at + 1].startswith(">>> ") else ""
            with case.subTest(code=row):
                case.assertEqual(outcome(row[4:], names), shown)


def caught(function, *args, **named):
    """The error that this call raises; None if it raises none."""
    try:
        function(*args, **named)
    except (LookupError, ValueError) as error:
        return error
    return None


def check_raises(case, told, function, *args, **named):
    """The call raises just this error, told as the document does, and changes no argument."""
    held = copy.deepcopy((args, named)) if "[[[[[[" not in shown(args) else None
    error = caught(function, *args, **named)
    case.assertIsNotNone(error, f"{function.__name__}{shown(args)} raises nothing")
    case.assertEqual(told_error(error), "raises " + told, f"{function.__name__}{shown(args)}")
    if held is not None:
        case.assertEqual((args, named), held)


def shown(args):
    """The arguments as a text; of what is too deep to be shown, only that."""
    try:
        return repr(args)
    except RecursionError:
        return "([[[[[[ .. ]]]]]])"


def check_unfit(case, function, good, place, odd):
    """Each odd value in this place of good arguments is Unfit()."""
    for value in odd:
        args = [*good[:place], value, *good[place + 1:]]
        check_raises(case, "Unfit()", function, *args)


def cells(piece):
    """The CELLS of a PIECE."""
    x, y, way = piece
    beside = [STEPS[(way + turn) % 4] for turn in (-1, 0, 1)]
    return {(x, y)} | {(x + dx, y + dy) for dx, dy in beside}


def found_layings(wide, high):
    """All ways to cover a field with PIECES, sought CELL by CELL, ascending."""
    field = {(x, y) for x in range(wide) for y in range(high)}
    order = sorted(field)
    by_least = {cell: [] for cell in order}
    for x, y in order:
        for way in range(4):
            if cells((x, y, way)) <= field:
                by_least[min(cells((x, y, way)))].append((x, y, way))
    found = []

    def go_on(free, chosen):
        if not free:
            found.append(tuple(sorted(chosen)))
            return
        for piece in by_least[min(free)]:
            if cells(piece) <= free:
                go_on(free - cells(piece), [*chosen, piece])

    if wide * high % 4 == 0:
        go_on(frozenset(field), [])
    return sorted(found)

"""What several test files share."""

import inspect


def nested(wrap, depth, core):
    """Return core wrapped so many times."""
    for _ in range(depth):
        core = wrap(core)
    return core


# Values of each sort that "any value" names in [0.2], none of them in the form of a bigger thing.
ANY_VALUES = [
    None, True, False, 0, 1, -1, 2, 10 ** 40 - 1, 1 - 10 ** 40,
    "", " ", "a", "z", "n", "A", "0", "_", "~", "\n", "up", "one", "a b", "end", "x" * 12, "x" * 13, "z" * 3000,
    "~ \n" * 1000, "9" * 3000, "not " * 750,
    (), [], {}, ((),), ([],), [()], [[]], {"a": ()}, {0: 1}, {(): []}, (None,), (True,), (0,), ("",), ("a",), ("up",),
    (None, None), (0, 1), (0, True), (True, 1), ("a", "b"), ("not",), ("not", None), ("if",), ("repeat",), ("wins",),
    ([],) * 2, ({},) * 3, (None,) * 3, ("",) * 3, [(), (), ()], [("up", "i")], {"up": "i"}, {"tapes": ()},
    tuple(range(2999)), ("up", "i") * 1000, ("a",) * 2999, (False,) * 2999, ((0, 0),) * 999,
    nested(lambda core: (core,), 12, 0), nested(lambda core: [core], 12, ""), nested(lambda core: {"a": core}, 12, ()),
    nested(lambda core: ("not", core), 12, None), nested(lambda core: ("if", core, core, core), 5, True),
]

# Examples from DOC.md: lines that begin with ">>> " and, behind each that gives something, what it gives.


def run_examples(case, text):
    """Run lines as they stand in DOC.md."""
    lines = text.strip("\n").split("\n")
    space = {}
    ran = 0
    for at, line in enumerate(lines):
        if not line.startswith(">>> "):
            continue
        row = line[len(">>> "):]
        if at + 1 == len(lines) or lines[at + 1].startswith(">>> "):
            exec(row, space)
            continue
        told = lines[at + 1]
        ran = ran + 1
        if told.startswith("raises "):
            space["told"] = told[len("raises "):]
            exec("from narrowplay.errors import *", space)
            wanted = eval(space["told"], space)
            case.assertEqual(error_of(lambda: eval(row, space)), (wanted.__class__, vars(wanted)), row)
        else:
            case.assertEqual(repr(eval(row, space)), told, row)
    case.assertGreater(ran, 0)


def error_of(call, *args, **named):
    """Return the class and the attributes of the error that a call raises, None if it raises none."""
    try:
        call(*args, **named)
    except Exception as wrong:
        return (wrong.__class__, vars(wrong))
    return None


def check_raises(case, wanted, attributes, call, *args):
    """Check an error, by position and by name, and that it holds the very value that was passed."""
    before = repr(args)
    names = list(inspect.signature(call).parameters)
    for told in (error_of(call, *args), error_of(call, **dict(zip(names, args)))):
        case.assertIsNotNone(told, (call, args))
        case.assertEqual(told[0], wanted, (call, args))
        case.assertEqual(list(told[1]), list(attributes), (call, args))
        for name in attributes:
            if name == "at":
                case.assertEqual(repr(told[1][name]), repr(attributes[name]), (call, args))
            else:
                case.assertIs(told[1][name], attributes[name], (call, args))
    case.assertEqual(repr(args), before)


def check_gives(case, wanted, call, *args):
    """Check a result, by position and by name, also a second time, and that nothing was changed."""
    before = repr(args)
    names = list(inspect.signature(call).parameters)
    for told in (call(*args), call(**dict(zip(names, args))), call(*args)):
        case.assertEqual(repr(told), repr(wanted), (call, args))
    case.assertEqual(repr(args), before)


def check_parameters(case, call, names):
    """Check the names of the parameters of a function, and that each may be passed by position and by name."""
    parameters = inspect.signature(call).parameters
    case.assertEqual(list(parameters), names)
    for parameter in parameters.values():
        case.assertEqual(parameter.kind, inspect.Parameter.POSITIONAL_OR_KEYWORD)
        case.assertIs(parameter.default, inspect.Parameter.empty)


def with_part(whole, at, part):
    """Return a tuple with another part at a position."""
    return whole[:at] + (part,) + whole[at + 1:]


def without_part(whole, at):
    """Return a tuple without the part at a position."""
    return whole[:at] + whole[at + 1:]


def twice_part(whole, at):
    """Return a tuple with the part at a position put twice."""
    return whole[:at + 1] + whole[at:]

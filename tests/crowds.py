"""Programs with many tables: just 200, just 201, and very many."""

from answeredabove.base.programs import Procedure, Program

MODES = (0, 1, 2, 3)
ROUND = ((0, 1), (1, 2), (2, 3), (3, 0))
THREE = ((0, 1), (1, 2), (2, 0), (3, 3))
KEEP = ((0, 0), (1, 1), (2, 2), (3, 3))
SIGNALS = ("aa", "bb", "cc")


def turn(name, signal, ahead, behind):
    """An answer that raises its signal in another mode, and turns the mode in which it is resumed."""
    moves = ("go", 0, 1, ahead), ("raise", 1, 2, signal, MODES), ("go", 2, 3, behind), ("leave", 3, MODES)
    return Procedure(name, 4, *moves)


def one_hot(mode):
    """The entries of a signal that is resumed in this mode only if it is raised in 0."""
    return ((mode,), (), (), ())


# Around `wheel` come 12 tables for "aa", and 4 each for "bb" and "cc", in every combination.
HOT = one_hot(0) + one_hot(3) + one_hot(3)
WHEEL = Procedure(
    "wheel", 1, *[("call", 0, 0, "wheel", MODES, ((signal, f"turn{signal}", ()),)) for signal in SIGNALS],
)
TURNS = [turn(f"turn{signal}", signal, ROUND, THREE) for signal in SIGNALS]
# These do the same whatever is outside of them.
NEVER = Procedure("never", 1)
SETS = [Procedure("seta", 1, ("leave", 0, (0,))), Procedure("setb", 2, ("go", 0, 1, ((0, 3),)), ("leave", 1, (3,)))]
OTHERS = [
    (("aa", "never", ()),), (("bb", "never", ()),), (("cc", "never", ()),), (("aa", "never", ()), ("bb", "never", ())),
    (("aa", "never", ()), ("cc", "never", ())), (("bb", "never", ()), ("cc", "never", ())),
    (("aa", "never", ()), ("bb", "never", ()), ("cc", "never", ())), (("aa", "setb", ()),),
    (("aa", "setb", ()), ("bb", "never", ())), (("aa", "setb", ()), ("cc", "never", ())),
]


def crowd(more, starts=(0,)):
    """A program the procedure `root` of which meets 192 tables under HOT, and so many more."""
    calls = [("call", 0, 0, "never", MODES, answers) for answers in OTHERS[:more]]
    root = Procedure("root", 1, ("call", 0, 0, "wheel", MODES, ()), *calls, ("leave", 0, (0,)))
    return Program(4, starts, SIGNALS, root, WHEEL, *TURNS, NEVER, *SETS)


def set_out(more, starts=(0,)):
    """A program the main procedure of which calls `root` of a crowd so that its inner table is HOT, where `root` meets
    so many more tables; the program's own runs meet one more, the empty one."""
    answers = (("aa", "seta", ()), ("bb", "setb", ()), ("cc", "setb", ()))
    main = Procedure("main", 2, ("call", 0, 1, "root", MODES, answers), ("leave", 1, MODES))
    return Program(4, starts, SIGNALS, main, *crowd(more, starts).procedures)


def branching(kind):
    """A program the main procedure of which calls itself in two ways; the tables are as good as all that there are."""
    moves = [("go", 0, 1, ROUND), ("raise", 1, 2, "ask", MODES), ("go", 2, 3, KEEP), ("leave", 3, MODES)]
    first = [*moves, ("leave", 0, (0,))]
    other = [("go", 0, 1, KEEP), ("raise", 1, 2, "ask", MODES), ("go", 2, 3, ROUND), ("leave", 3, MODES)]
    if kind == "answers call main":
        first.append(("call", 3, 3, "main", (1,), (("ask", "one", ()),)))
        other.append(("call", 3, 3, "main", (2,), (("ask", "two", ()),)))
    main = Procedure(
        "main", 2, ("call", 0, 0, "main", MODES, (("ask", "one", ()),)),
        ("call", 0, 0, "main", MODES, (("ask", "two", ()),)), ("raise", 0, 1, "ask", MODES), ("leave", 1, MODES),
    )
    return Program(4, (0,), ("ask",), main, Procedure("one", 4, *first), Procedure("two", 4, *other))


def pairing(many):
    """A program the main procedure of which calls itself, answered by so many procedures; each one adds a mode to an
    entry of the table, so that 2 to the power of so many tables are met, less those that are equal."""
    names = ["hs", "ht", "hu", "hv", "hw", "hx", "hy", "hz"][:many]
    pairs = [(0, 0), (0, 1), (0, 2), (1, 0), (1, 1), (1, 2), (2, 0), (2, 1)]
    calls = [("call", 0, 1, "p", (0,), (("a", name, ()),)) for name in names]
    main = Procedure("p", 2, *calls, ("raise", 0, 1, "a", (0,)), ("leave", 1, (0, 1, 2)))
    answers = [
        Procedure(name, 2, ("go", 0, 1, (pair,)), ("raise", 0, 1, "a", (0, 1, 2)), ("leave", 1, (0, 1, 2)))
        for name, pair in zip(names, pairs)
    ]
    return Program(3, (0,), ("a",), main, *answers)

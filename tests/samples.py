"""Values and handlers that several tests use."""

from oncepost.errors import InvalidRows, OtherWorld, TooMany
from oncepost.schedules import Schedule
from oncepost.systems import Service, System
from oncepost.ways import Ways

ADDER = (("set", "n", ("+", ("row", "n"), ("body",))), ("send", "told", None, ("row", "n")))

# Every form of a deed, an expression and a condition stands in it.
FULL = (
    ("set", "n", ("+", ("row", "n"), ("body",))),
    (
        "if",
        ("and", ("<", ("value", -99), ("row", "low")), ("not", ("=", ("body",), ("value", 99)))),
        (("send", "told", None, ("-", ("row", "a"), ("value", 1))),),
        (("if", ("or", ("<", ("body",), ("body",)), ("=", ("row", "b"), ("body",))), (("fail",),), ()),),
    ),
    ("send", "other", "key", ("*", ("row", "zzzzzz"), ("body",))),
)

ROWS = ((("a", "k"), 1), (("n", "j"), -99), (("n", "k"), 98))
MESSAGE = ("add", "k", 3)


def adder_system(crashes=1, way=Ways.SAFE):
    """The system of the document's examples."""
    return System(["add", "told"], [Service("adder", {"add": ADDER}, way, crashes=crashes)], [("add", "k", 3)])


def nested(make, times, value):
    """What make makes of the value, so many times."""
    for _ in range(times):
        value = make(value)
    return value


def odd_values():
    """Values of all sorts that stand nowhere in a handler, rows or a message, new at each call."""
    return [
        True,
        False,
        100,
        -100,
        10 ** 109,
        -(10 ** 109),
        "",
        "abcdefg",
        "Add",
        "a1",
        "a b",
        "a\n",
        " ",
        "~",
        (None,),
        ((),),
        ("",),
        ((), ()),
        (1, 2, 3),
        ("fail", "fail"),
        ("value", True),
        [],
        [1, [2, ()]],
        ["body"],
        [("fail",)],
        {},
        {"a": []},
        {(): None},
        {"value": 1},
        InvalidRows([3]),
        TooMany(2000),
        OtherWorld(),
        Ways(),
        Service("adder", {"add": ADDER}),
        adder_system(),
        Schedule(adder_system(), ("take", "add")),
        nested(lambda inner: (inner,), 19, 0),
        nested(lambda inner: [inner], 19, 0),
        nested(lambda inner: {"value": inner}, 19, 0),
        nested(lambda inner: ("not", inner), 19, "body"),
        nested(lambda inner: ("+", inner, inner), 19, ("body",)),
        nested(lambda inner: ("and", inner, inner), 19, ("=", ("body",), ("body",))),
        nested(lambda inner: (("if", ("=", ("body",), ("body",)), inner, inner),), 9, ()),
    ]


def paths(tree):
    """The paths of indexes to all parts of a tree, the empty path of the whole first."""
    found = [()]
    if isinstance(tree, tuple):
        for at, part in enumerate(tree):
            found.extend((at, *path) for path in paths(part))
    return found


def part_at(tree, path):
    for at in path:
        tree = tree[at]
    return tree


def replaced(tree, path, part):
    """The tree with another part at the end of the path."""
    if path == ():
        return part
    at = path[0]
    return (*tree[:at], replaced(tree[at], path[1:], part), *tree[at + 1:])

"""The document's examples, word for word."""

import importlib
import unittest

MODULES = ("errors", "handlers", "ways", "systems", "schedules", "facts", "searches", "papers", "judging", "accounts")
MODULES += ("forgetting", "sides", "halls")

FIRST = """
>>> handler = (("set", "n", ("+", ("row", "n"), ("body",))), ("send", "told", None, ("row", "n")))
>>> run_handler(handler, ((("n", "k"), 98),), ("add", "k", 3))
('done', ((('n', 'k'), 99),), (('told', 'k', 99),))
>>> run_handler((("if", ("<", ("body",), ("value", 0)), (("fail",),), ()),), (), ("add", "k", -1))
('failed',)
>>> footprint(handler)
(('n',), ('n',), ('told',))
>>> run_handler((("set", "n"),), (), ("add", "k", 3))
raises InvalidHandler((('set', 'n'),))
"""

SECOND = """
>>> system = System(["add", "told"], [Service("adder", {"add": handler}, crashes=1)], [("add", "k", 3)])
>>> system.begin
((((((0,), ('add', 'k', 3)),), 0), ((), 0)), (((), (), (), ((), None), None, 1, 0),))
>>> state = system.play(("take", "add"), ("commit", "adder"))
>>> state[1]
((((('n', 'k'), 3),), ((0,),), (((0,), 1, 1),), ((((0, 0), ('told', 'k', 3)),), None), ('add', 0, (('answer',),)), 1, 0),)
>>> system.possible(state)
[('answer', 'add'), ('relay', 'adder', 'told'), ('crash', 'adder')]
>>> [system.lines_of(("relay", "adder", "told")), system.apart(("answer", "add"), ("relay", "adder", "told"))]
[(('log', 'told'), ('out', 'adder', 'told')), True]
>>> system.play(("take", "add"), ("relay", "adder", "told"))
raises NotPlayed(1)
>>> plain = system.with_budgets([(0, 0)])
>>> [count_states(plain), by_length(plain), count_classes(plain)]
[8, (0, 0, 0, 0, 0, 3), 1]
"""

THIRD = """
>>> steps = (("take", "add"), ("commit", "adder"), ("relay", "adder", "told"), ("mark", "adder", "told"), ("answer", "add"))
>>> schedule = Schedule(system, *steps)
>>> [schedule.is_whole(), schedule.many(), len(list(schedule.cuts()))]
[True, 3, 8]
>>> schedule.levels()
((('take', 'add'),), (('commit', 'adder'),), (('answer', 'add'), ('relay', 'adder', 'told')), (('mark', 'adder', 'told'),))
>>> schedule.clock(2)
((('hand', 'adder'), 2), (('log', 'add'), 1), (('log', 'told'), 1), (('out', 'adder', 'told'), 2))
>>> cut = ((("hand", "adder"), 3), (("log", "add"), 1), (("log", "told"), 1), (("out", "adder", "told"), 2))
>>> schedule.below(cut) == schedule.clock(2)
True
>>> schedule.possibly(("log", "told", 1)) == schedule.clock(2)
True
>>> schedule.surely(("log", "told", 1)) is None
True
>>> why(schedule, ("entry", "told", 0))
[('commit', 'adder', 0), ('entry', 'add', 0), ('entry', 'told', 0)]
"""

FOURTH = """
>>> [count_states(system), by_length(system), count_classes(system)]
[28, (0, 0, 0, 0, 0, 3, 0, 12, 6), 6]
>>> [steps for face, steps in ends(system)][0]
(('take', 'add'), ('commit', 'adder'), ('answer', 'add'), ('relay', 'adder', 'told'), ('crash', 'adder'), ('relay', 'adder', 'told'), ('mark', 'adder', 'told'))
>>> [len(face[0][1][0]) for face, steps in ends(system)]
[2, 1]
>>> needs(system, ends(system)[0][0])
[((1, 0),)]
>>> alike(system, plain)
(0, ((('k', 3), ('k', 3)),), (('take', 'add'), ('commit', 'adder'), ('answer', 'add'), ('relay', 'adder', 'told'), ('crash', 'adder'), ('relay', 'adder', 'told'), ('mark', 'adder', 'told')))
>>> [is_short(system, short_paper(system)), len(full_paper(system))]
[True, 28]
>>> judge(system.with_ways({"adder": ("outbox", "inbox", "behind", "ahead")}), "lost")
('breaks', (('take', 'add'), ('commit', 'adder'), ('answer', 'add'), ('mark', 'adder', 'told'), ('crash', 'adder')))
>>> [judge(system, "lost")[0], price(system, "again")]
['holds', [((1, 0),)]]
>>> [account(Ways.SAFE, 0, 1, 0), account(("after", "plain", "behind", "behind"), 0, 2, 0)]
[(1, 1, 1, 2), (1, 3, 1, 3)]
>>> [witness(Ways.SAFE, word) is None for word in Words.ALL]
[True, True, True, True, False]
>>> mend(system, ["twice"], {"adder": [("outbox", "late", "behind", "behind"), Ways.SAFE]})
{'adder': ('outbox', 'inbox', 'behind', 'behind')}
"""

FIFTH = """
>>> [things(system, state), alive(system, state, ("adder", (0,)))]
[[('adder', (0,))], (('crash', 'adder'), ('take', 'add'))]
>>> later = system.play(("take", "add"), ("commit", "adder"), ("answer", "add"))
>>> [kept(system, state), kept(system, later), dead(system, later)]
[[('adder', (0,))], [], [('adder', (0,))]]
>>> [may_forget(system, state, ("adder", (0,)))[0], may_forget(system, later, ("adder", (0,)))]
[1, None]
>>> [Beside(plain, plain).lengths(), Beside(system, plain).state_count(), parts(system) == [system]]
[(0, 0, 0, 0, 0, 0, 0, 0, 0, 0, 2268), 224, True]
"""

SIXTH = """
>>> hall = LoggedHall(plain)
>>> hall.do(("take", "add"), ("commit", "adder"), ("relay", "adder", "told"))
>>> hall.texts
{'kind add': '', 'kind told': '1 relay adder 0,0 k 3 0,0,1 3240\\n', 'service adder': '1 commit add 0 0,0,0 3717\\n'}
>>> LoggedHall.recovered(plain, hall.texts)[1]
{'kind add': 0, 'kind told': 1, 'service adder': 1}
>>> LoggedHall.recovered(plain, hall.texts)[0][1]
((((('n', 'k'), 3),), ((0,),), (((0,), 1, 1),), ((((0, 0), ('told', 'k', 3)),), None), None, 0, 0),)
>>> LoggedHall.recovered(plain, {"kind add": "", "kind told": hall.texts["kind told"], "service adder": "1 commit"})[1]
{'kind add': 0, 'kind told': 0, 'service adder': 0}
>>> [hall.undo(), hall.schedule, hall.undone]
[None, (), 1]
>>> hall.undo()
raises OutOfRange(1)
"""


def names():
    """All that the modules define, by name."""
    found = {}
    for name in MODULES:
        found.update(vars(importlib.import_module("oncepost." + name)))
    return found


def outcome(row, known):
    """What a row of an example shows: "" of an assignment, and of None."""
    try:
        code = compile(row, "example", "eval")
    except SyntaxError:
        exec(row, known)
        return ""
    try:
        told = eval(code, known)
        return "" if told is None else repr(told)
    except (ValueError, LookupError, OverflowError) as error:
        fields = ", ".join(repr(value) for value in vars(error).values())
        return f"raises {type(error).__name__}({fields})"


class TestExamples(unittest.TestCase):
    def test_document(self):
        known = names()
        shown = 0
        for block in (FIRST, SECOND, THIRD, FOURTH, FIFTH, SIXTH):
            rows = block.strip().split("\n")
            for at, row in enumerate(rows):
                if not row.startswith(">>> "):
                    continue
                told = rows[at + 1] if at + 1 < len(rows) and not rows[at + 1].startswith(">>> ") else ""
                with self.subTest(row):
                    self.assertEqual(outcome(row[4:], known), told)
                    shown += 1
        self.assertEqual(shown, 48)


if __name__ == "__main__":
    unittest.main()

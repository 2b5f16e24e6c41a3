"""Words of ends, judgements and prices [4] [50] [51]."""

import unittest

from oncepost.errors import NoWord
from oncepost.judging import Words, is_so, judge, price
from oncepost.papers import is_short
from oncepost.searches import ends
from oncepost.systems import Service, System
from oncepost.ways import Ways
from tests.draws import drawn_spec, drawn_steps, system_of
from tests.listing import Listing, drawn_listings
from tests.samples import adder_system, odd_values

TELL = (("send", "told", None, ("body",)),)
PASS = (("send", "b", None, ("body",)),)
# The first run sends a message to told, each later one to more.
ELSEWHERE = (
    ("if", ("=", ("row", "n"), ("value", 0)), (("send", "told", None, ("body",)),), (("send", "more", None, ("body",)),)),
    ("set", "n", ("value", 1)),
)


def words_of(system, end):
    """A plain reading of point 50: the words by which an end is so."""
    logs = dict(zip(system.kinds, state_logs(end)))
    books = [{ident: (commits, sends) for ident, commits, sends in own[2]} for own in end[1]]
    born = {(at,) for at in range(len(system.commands))}
    born |= {(*x, j) for book in books for x, (_, sends) in book.items() for j in range(sends)}
    every = [(ident, message) for kind in system.kinds for ident, message in logs[kind]]
    handled = {ident for kind in system.kinds if kind not in system.world for ident, _ in logs[kind]}
    told = set()
    if any(commits > 1 for book in books for commits, _ in book.values()):
        told.add("twice")
    for ident in born:
        nowhere = ident not in [one for one, _ in every]
        if nowhere or (ident in handled and not any(ident in book for book in books)):
            told.add("lost")
    if any(ident not in born for ident, _ in every):
        told.add("made")
    if any(one[0] == other[0] and one[1] != other[1] for one in every for other in every):
        told.add("unlike")
    if any(ident == other for kind in system.world for at, (ident, _) in enumerate(logs[kind]) for other, _ in logs[kind][:at]):
        told.add("again")
    return told


def state_logs(state):
    return [entries for entries, _ in state[0]]


def single(way, handlers, kinds, commands, **budgets):
    return System(kinds, [Service("s", handlers, way, **budgets)], commands)


def made_system(way):
    """A system that makes up messages if it posts before its commits: the run of a sends nothing behind that of b."""
    handlers = {"a": (("if", ("=", ("row", "n"), ("value", 0)), TELL, ()),), "b": (("set", "n", ("value", 1)),)}
    return single(way, handlers, ["a", "b", "told"], [("a", "k", 1), ("b", "k", 1)], crashes=1)


class WordCase(unittest.TestCase):
    def so(self, system, steps, *words):
        """That the end of a whole schedule is so by just these words."""
        end = system.play(*steps)
        self.assertEqual(system.possible(end), [])
        self.assertEqual({word for word in Words.ALL if is_so(system, end, word)}, set(words))
        self.assertEqual(words_of(system, end), set(words))


class TestWords(WordCase):
    def test_all(self):
        self.assertEqual(Words.ALL, ("twice", "lost", "made", "unlike", "again"))

    def test_drawn_ends(self):
        told = {}
        for seed in range(2000):
            system = system_of(drawn_spec(seed, most_faults=2))
            end = system.play(*drawn_steps(system, seed))
            words = words_of(system, end)
            for word in Words.ALL:
                with self.subTest(seed, word=word):
                    self.assertIs(is_so(system, end, word), word in words)
                told[(word, word in words)] = told.get((word, word in words), 0) + 1
        self.assertEqual(len(told), 10)
        self.assertGreater(min(told.values()), 9)

    def test_none(self):
        system = adder_system(crashes=0)
        self.so(system, ends(system)[0][1])

    def test_twice(self):
        system = single(("outbox", "plain", "behind", "behind"), {"a": ()}, ["a"], [("a", "k", 1)], crashes=1)
        once = (("take", "a"), ("commit", "s"))
        self.so(system, (*once, ("crash", "s"), *once, ("answer", "a")), "twice")
        self.so(system, (*once, ("answer", "a")))
        # A crash before the commit.
        self.so(system, (once[0], ("crash", "s"), *once, ("answer", "a")))

    def test_twice_is_told_service_by_service(self):
        # One id, two kinds: each service commits it once.
        way = ("outbox", "late", "behind", "behind")
        services = [
            Service("s", {"a": ELSEWHERE}, way, crashes=1),
            Service("t", {"told": ()}, way),
            Service("u", {"more": ()}, way),
        ]
        system = System(["a", "told", "more"], services, [("a", "k", 1)])
        steps = [("take", "a"), ("commit", "s"), ("crash", "s"), ("take", "a"), ("commit", "s"), ("note", "s"), ("answer", "a")]
        for name, kind in (("t", "told"), ("u", "more")):
            steps += [("relay", "s", kind), ("mark", "s", kind), ("take", kind), ("commit", name), ("note", name)]
            steps += [("answer", kind)]
        self.so(system, steps, "twice", "unlike")
        end = system.play(*steps)
        self.assertEqual([own[2] for own in end[1][1:]], [(((0, 0), 1, 0),)] * 2)

    def test_lost_in_no_log(self):
        system = adder_system(crashes=1, way=("outbox", "inbox", "behind", "ahead"))
        steps = (("take", "add"), ("commit", "adder"), ("answer", "add"), ("mark", "adder", "told"))
        self.so(system, (*steps, ("crash", "adder")), "lost")
        self.so(system, (*steps, ("relay", "adder", "told")))

    def test_lost_by_a_later_run_that_sends_less(self):
        # The first run sent a message, which was not posted; the book keeps the greatest number.
        handler = (("if", ("=", ("row", "n"), ("value", 0)), TELL, ()), ("set", "n", ("value", 1)))
        system = single(("after", "late", "behind", "behind"), {"a": handler}, ["a", "told"], [("a", "k", 1)], crashes=1)
        once = (("take", "a"), ("commit", "s"))
        self.so(system, (*once, ("crash", "s"), *once, ("note", "s"), ("answer", "a")), "twice", "lost")

    def test_lost_in_a_handled_log(self):
        system = single(("outbox", "inbox", "ahead", "behind"), {"a": ()}, ["a"], [("a", "k", 1)], crashes=1)
        self.so(system, (("take", "a"), ("answer", "a"), ("crash", "s")), "lost")
        self.so(system, (("take", "a"), ("answer", "a"), ("commit", "s")))

    def test_not_lost_in_a_log_of_the_world(self):
        system = System(["w", "a"], [Service("s", {"a": ()})], [("w", "k", 1)])
        self.so(system, ())

    def test_not_lost_if_another_copy_was_committed(self):
        # Two entries of one id: the first one is answered for and forgotten.
        ahead = ("after", "inbox", "ahead", "behind")
        services = [Service("s", {"a": PASS}, ahead, losses=1), Service("t", {"b": ()}, ahead, crashes=1)]
        system = System(["a", "b"], services, [("a", "k", 1)])
        begun = (("take", "a"), ("answer", "a"), ("commit", "s"), ("lose", "s", "b"), ("post", "s", "b"))
        gone = (("take", "b"), ("answer", "b"), ("crash", "t"))
        self.so(system, (*begun, *gone, ("take", "b"), ("answer", "b"), ("commit", "t")))
        self.so(system, (*begun[:3], ("post", "s", "b"), *gone), "lost")

    def test_what_is_not_born_is_not_lost(self):
        # A message that was made, and then answered for without a commit.
        way = ("before", "inbox", "ahead", "behind")
        services = [Service("s", {"a": PASS}, way, crashes=1), Service("t", {"b": ()}, way, crashes=1)]
        system = System(["a", "b"], services, [("a", "k", 1)])
        steps = (("take", "a"), ("answer", "a"), ("post", "s", "b"), ("crash", "s"))
        end = system.play(*steps, ("take", "b"), ("answer", "b"), ("crash", "t"))
        self.assertEqual([own[2] for own in end[1]], [(), ()])
        self.assertEqual(words_of(system, end), {"lost", "made"})
        # The command itself was lost, but not its message.
        self.so(system, (*steps, ("take", "b"), ("answer", "b"), ("crash", "t")), "lost", "made")

    def test_made(self):
        system = made_system(("before", "plain", "behind", "behind"))
        posted = (("take", "a"), ("post", "s", "told"))
        other = (("take", "b"), ("commit", "s"), ("answer", "b"))
        last = (("take", "a"), ("commit", "s"), ("answer", "a"))
        self.so(system, (*posted, ("crash", "s"), *other, *last), "made")
        self.so(system, (*posted, ("commit", "s"), ("answer", "a"), *other))

    def test_made_of_a_failed_run(self):
        # A run that failed was committed with no sends.
        handlers = {"a": (("if", ("=", ("row", "n"), ("value", 0)), TELL, (*TELL, ("fail",))),), "b": (("set", "n", ("value", 1)),)}
        way = ("before", "plain", "behind", "behind")
        system = single(way, handlers, ["a", "b", "told"], [("a", "k", 1), ("b", "k", 1)], crashes=1)
        steps = (("take", "a"), ("post", "s", "told"), ("crash", "s"), ("take", "b"), ("commit", "s"), ("answer", "b"))
        self.so(system, (*steps, ("take", "a"), ("commit", "s"), ("answer", "a")), "made")

    def test_unlike_in_one_log(self):
        # The first message is told again, with another value.
        handler = (("set", "n", ("+", ("row", "n"), ("value", 1))), ("send", "b", None, ("row", "n")))
        way = ("outbox", "plain", "behind", "behind")
        services = [Service("s", {"a": handler}, way, crashes=1), Service("t", {"b": ()}, way)]
        system = System(["a", "b"], services, [("a", "k", 1)])
        once = (("take", "a"), ("commit", "s"))
        steps = [*once, ("crash", "s"), *once, ("answer", "a")]
        for _ in range(2):
            steps += [("relay", "s", "b"), ("mark", "s", "b"), ("take", "b"), ("commit", "t"), ("answer", "b")]
        self.so(system, steps, "twice", "unlike")

    def test_unlike_in_two_logs(self):
        way = ("outbox", "plain", "behind", "behind")
        system = single(way, {"a": ELSEWHERE}, ["a", "told", "more"], [("a", "k", 1)], crashes=1)
        once = (("take", "a"), ("commit", "s"))
        steps = [*once, ("crash", "s"), *once, ("answer", "a")]
        for kind in ("told", "more"):
            steps += [("relay", "s", kind), ("mark", "s", kind)]
        # One id is in two logs of the world, but in none of them twice.
        self.so(system, steps, "twice", "unlike")

    def test_again(self):
        system = adder_system(crashes=1)
        begun = (("take", "add"), ("commit", "adder"), ("answer", "add"), ("relay", "adder", "told"))
        last = (("relay", "adder", "told"), ("mark", "adder", "told"))
        self.so(system, (*begun, ("crash", "adder"), *last), "again")
        self.so(system, (*begun, last[1]))

    def test_not_again_in_a_handled_log(self):
        way = ("after", "inbox", "behind", "behind")
        services = [Service("s", {"a": PASS}, way, losses=1), Service("t", {"b": ()}, way)]
        system = System(["a", "b"], services, [("a", "k", 1)])
        steps = (("take", "a"), ("commit", "s"), ("lose", "s", "b"), ("post", "s", "b"), ("answer", "a"))
        self.so(system, (*steps, ("take", "b"), ("commit", "t"), ("answer", "b"), ("take", "b"), ("answer", "b")))

    def test_two_ids_of_one_message_are_not_again(self):
        system = System(["a", "told"], [Service("s", {"a": TELL * 2})], [("a", "k", 1)])
        _, steps = ends(system)[0]
        self.so(system, steps)
        self.assertEqual(len(system.play(*steps)[0][1][0]), 2)

    def test_no_word(self):
        system = adder_system()
        end = system.play(*ends(system)[0][1])
        wrong = [None, True, 0, "", "TWICE", "twice ", ("twice",), ["twice"], {"twice": 1}, Words.ALL, Words(), "holds"]
        for value in wrong + odd_values():
            for call in (lambda word: is_so(system, end, word), lambda word: judge(system, word), lambda word: price(system, word)):
                with self.assertRaises(NoWord) as caught:
                    call(value)
                self.assertIs(caught.exception.word, value)

    def test_by_name(self):
        system = adder_system()
        end = system.play(*ends(system)[0][1])
        self.assertIs(is_so(word="again", state=end, system=system), True)
        self.assertEqual(judge(word="again", system=system), judge(system, "again"))
        self.assertEqual(price(word="again", system=system), [((1, 0),)])


class TestJudge(unittest.TestCase):
    def test_against_listings(self):
        told = {}
        listings = [(seed, listing) for seed, _, listing in drawn_listings(range(0, 432, 3), 1000)]
        for way in Ways.every():
            listings += [(way, Listing(made_system(way))), (way, Listing(adder_system(way=way)))]
        for seed, listing in listings:
            system = listing.system
            so = [(steps, end, words_of(system, end)) for steps, end in listing.whole]
            for word in Words.ALL:
                breaking = [(steps, end) for steps, end, words in so if word in words]
                verdict = judge(system, word)
                spent = sorted({listing.spent(end) for _, end in breaking})
                with self.subTest(seed, word=word):
                    self.assertIsInstance(verdict, tuple)
                    self.assertEqual(price(system, word), [one for one in spent if self.is_least(one, spent)])
                    if breaking:
                        self.assertEqual(verdict, ("breaks", breaking[0][0]))
                    else:
                        self.assertEqual((verdict[0], len(verdict)), ("holds", 2))
                        self.assertIsInstance(verdict[1], list)
                        self.assertIs(is_short(system, verdict[1]), True)
                told[(word, bool(breaking))] = told.get((word, bool(breaking)), 0) + 1
        self.assertEqual(len(told), 10)
        self.assertGreater(min(told.values()), 5)

    def is_least(self, one, spends):
        return not any(
            other != one and all(a <= c and b <= d for (a, b), (c, d) in zip(other, one)) for other in spends
        )

    def test_several_least_budgets(self):
        system = adder_system().with_budgets([(2, 2)])
        self.assertEqual(price(system, "again"), [((0, 1),), ((1, 0),)])
        self.assertEqual(price(system, "twice"), [])
        plain = system.with_ways({"adder": ("after", "plain", "behind", "behind")})
        self.assertEqual(price(plain, "twice"), [((1, 0),)])
        # Told again: by a loss, or by a crash between post and answer.
        self.assertEqual(price(plain, "again"), [((0, 1),), ((1, 0),)])

    def test_no_faults_no_breach(self):
        for way in Ways.every():
            system = adder_system(crashes=0, way=way)
            for word in Words.ALL:
                self.assertEqual(judge(system, word)[0], "holds")
                self.assertEqual(price(system, word), [])

    def test_so_without_faults(self):
        # No schedule is needed to break what costs nothing: the least budgets are none.
        way = ("outbox", "inbox", "behind", "behind")
        services = [Service("s", {"a": PASS}, way, losses=1), Service("t", {"b": TELL}, way, crashes=1)]
        system = System(["a", "b", "told"], services, [("a", "k", 1)])
        self.assertEqual(price(system, "again"), [((0, 0), (1, 0))])
        both = system.with_ways({"t": ("outbox", "plain", "behind", "behind")})
        # The second copy has the same id, and so has what its run sends.
        self.assertEqual(price(both, "again"), [((0, 0), (1, 0)), ((0, 1), (0, 0))])

    def test_new_lists(self):
        system = adder_system()
        for call in (lambda: judge(system, "lost")[1], lambda: price(system, "again")):
            first = call()
            kept = list(first)
            self.assertTrue(kept)
            first.clear()
            self.assertEqual(call(), kept)


if __name__ == "__main__":
    unittest.main()

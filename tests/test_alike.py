"""What is seen of ends, and systems that are alike in it [44]."""

import unittest

from oncepost.errors import OtherWorld
from oncepost.searches import alike, ends, seen
from oncepost.systems import Service, System
from oncepost.ways import Ways
from tests.draws import drawn_spec, drawn_steps, system_of
from tests.listing import drawn_listings, rank
from tests.samples import adder_system

TELL = (("send", "told", None, ("body",)),)


def sight(system, state):
    """A plain reading of what is seen."""
    logs = dict(zip(system.kinds, state[0]))
    return tuple(tuple((message[1], message[2]) for _, message in logs[kind][0]) for kind in system.world)


def expected(one, other):
    """What alike tells, from all whole schedules of both."""
    told = [listing.least(lambda end, system=listing.system: sight(system, end)) for listing in (one, other)]
    for which in (0, 1):
        own = sorted((seen for seen in told[which] if seen not in told[1 - which]), key=repr)
        if own:
            return (which, own[0], told[which][own[0]])
    return None


class TestSeen(unittest.TestCase):
    def test_drawn_ends(self):
        for seed in range(150):
            system = system_of(drawn_spec(seed, most_faults=3))
            end = system.play(*drawn_steps(system, seed))
            self.assertEqual(seen(system, end), sight(system, end))
            self.assertEqual(len(seen(system, end)), len(system.world))

    def test_each_kind_of_the_world_in_order(self):
        service = Service("s", {"b": (("send", "c", "x", ("value", 7)), ("send", "d", None, ("body",)))})
        commands = [("e", "j", 1), ("b", "k", 2), ("d", "m", 4), ("e", "i", 0)]
        system = System(["e", "b", "d", "a", "c"], [service], commands)
        end = system.play(*ends(system)[0][1])
        self.assertEqual(system.world, ("e", "d", "a", "c"))
        told = ((("j", 1), ("i", 0)), (("m", 4), ("k", 2)), (), (("x", 7),))
        self.assertEqual(seen(system, end), told)
        self.assertEqual(seen(state=end, system=system), told)

    def test_no_world(self):
        system = System(["a"], [Service("s", {"a": ()})], [("a", "k", 1)])
        self.assertEqual(seen(system, system.play(*ends(system)[0][1])), ())


class TestAlike(unittest.TestCase):
    def test_against_listings(self):
        which = {None: 0, 0: 0, 1: 0}
        listings = {}
        for seed, spec, listing in drawn_listings(range(0, 432, 2), 500):
            key = listing.system.world
            for other in listings.get(key, [])[-3:]:
                told = alike(listing.system, other.system)
                with self.subTest(seed):
                    self.assertEqual(told, expected(listing, other))
                    self.assertEqual(alike(other.system, listing.system), expected(other, listing))
                which[told and told[0]] += 1
            listings.setdefault(key, []).append(listing)
        self.assertGreater(min(which.values()), 9)

    def test_other_ways_and_budgets(self):
        safe = adder_system(crashes=1)
        plain = adder_system(crashes=0)
        least = ends(safe)[0][1]
        twice = ((("k", 3), ("k", 3)),)
        self.assertEqual(alike(safe, plain), (0, twice, least))
        self.assertEqual(alike(plain, safe), (1, twice, least))
        self.assertIsNone(alike(safe, safe))
        self.assertIsNone(alike(plain, adder_system(crashes=0)))
        # One crash or one loss: the same is seen.
        self.assertIsNone(alike(safe, plain.with_budgets([(0, 1)])))
        ahead = safe.with_ways({"adder": ("outbox", "inbox", "behind", "ahead")})
        which, told, steps = alike(ahead, plain)
        self.assertEqual((which, told), (0, ((),)))
        self.assertEqual(seen(ahead, ahead.play(*steps)), ((),))

    def test_the_first_system_first(self):
        # Each has what the other one has not; () of the second is the least by repr of all.
        twice = adder_system(crashes=0).with_budgets([(0, 1)])
        never = adder_system(crashes=1).with_ways({"adder": ("outbox", "inbox", "behind", "ahead")})
        self.assertEqual(alike(twice, never)[:2], (0, ((("k", 3), ("k", 3)),)))
        self.assertEqual(alike(never, twice)[:2], (0, ((),)))

    def test_the_least_by_repr(self):
        # 10 is before 9 by repr, and -5 before both.
        handler = (("if", ("=", ("row", "n"), ("value", 0)), (("send", "told", None, ("body",)), ("set", "n", ("value", 1))), ()),)
        service = Service("s", {"a": handler, "b": handler, "c": handler})
        system = System(["a", "b", "c", "told"], [service], [("a", "k", 9), ("b", "k", 10), ("c", "k", -5)])
        only = System(["a", "b", "c", "told"], [service], [("c", "k", -5)])
        which, told, steps = alike(system, only)
        self.assertEqual((which, told), (0, ((("k", 10),),)))
        self.assertEqual(steps[:2], (("take", "b"), ("commit", "s")))
        self.assertEqual(alike(only, system), (1, told, steps))

    def test_the_least_schedule(self):
        listing = next(one for _, _, one in drawn_listings(range(100, 432)) if len(one.whole) > 100)
        system = listing.system
        none = System(system.kinds, system.services)
        which, told, steps = alike(system, none)
        self.assertEqual(which, 0)
        key = rank(system)
        same = [one for one, end in listing.whole if seen(system, end) == told]
        self.assertEqual(steps, min(same, key=key))

    def test_other_handlers_and_handled_kinds(self):
        one = System(["a", "told"], [Service("s", {"a": TELL})], [("a", "k", 1)])
        other = System(["b", "a", "told"], [Service("x", {"b": TELL}), Service("y", {"a": ()})], [("b", "k", 1)])
        self.assertIsNone(alike(one, other))
        self.assertIsNone(alike(other=one, one=other))

    def test_other_world(self):
        first = System(["a", "v", "w"], [Service("s", {"a": ()})])
        others = [
            System(["a", "w", "v"], [Service("s", {"a": ()})]),
            System(["a", "v"], [Service("s", {"a": ()})]),
            System(["a", "v", "w", "x"], [Service("s", {"a": ()})]),
            System(["a", "v", "w"], [Service("s", {"a": (), "v": ()})]),
            System(["a", "v", "x"], [Service("s", {"a": ()})]),
        ]
        for other in others:
            for pair in ((first, other), (other, first)):
                with self.assertRaises(OtherWorld):
                    alike(*pair)
        # The place of a handled kind does not matter.
        self.assertIsNone(alike(first, System(["v", "w", "a"], [Service("s", {"a": ()})])))

    def test_all_ways_of_the_adder(self):
        # What may be told with a crash, besides once: twice, never, or both.
        once, twice = ((("k", 3),),), ((("k", 3), ("k", 3)),)
        told = {}
        for way in Ways.every():
            verdict = alike(adder_system(crashes=1, way=way), adder_system(crashes=0))
            told[way] = verdict and verdict[1]
        self.assertEqual(told[Ways.SAFE], twice)
        self.assertEqual(told[("outbox", "inbox", "behind", "ahead")], ((),))
        self.assertEqual(told[("before", "inbox", "behind", "behind")], twice)
        self.assertEqual(told[("before", "plain", "ahead", "behind")], ((),))
        # The rows of a run that is committed are there when it is run again.
        self.assertEqual(told[("after", "plain", "behind", "behind")], ((("k", 3), ("k", 6)),))
        self.assertEqual(set(told.values()) - {once}, set(told.values()))


if __name__ == "__main__":
    unittest.main()

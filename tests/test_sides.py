"""Systems side by side, and the parts of a system [70]."""

import itertools
import unittest

from oncepost.errors import InvalidCount, TooMany
from oncepost.searches import by_length, count_classes, count_states, ends
from oncepost.sides import Beside, parts
from oncepost.systems import Service, System
from oncepost.ways import Ways
from tests.bounds import just_enough, too_many
from tests.chains import separate
from tests.draws import drawn_spec, system_of
from tests.listing import drawn_listings
from tests.plain import Plain
from tests.samples import adder_system
from tests.test_searches import renamed


def mixtures(one, other):
    """All mixtures of two schedules: tuples of (which, step)."""
    if not one or not other:
        yield tuple((0, step) for step in one) + tuple((1, step) for step in other)
        return
    for rest in mixtures(one[1:], other):
        yield ((0, one[0]), *rest)
    for rest in mixtures(one, other[1:]):
        yield ((1, other[0]), *rest)


def class_of(systems, mixture):
    """The steps of a mixture on each line of each system: what alike ones have in common."""
    lines = {}
    for which, step in mixture:
        for line in systems[which].lines_of(step):
            lines.setdefault((which, line), []).append(step)
    return tuple(sorted((line, tuple(steps)) for line, steps in lines.items()))


def numbers_of(beside):
    return [beside.state_count(), beside.end_count(), beside.lengths(), beside.class_count()]


def own_numbers(system):
    return [count_states(system), len(ends(system)), by_length(system), count_classes(system)]


class TestBeside(unittest.TestCase):
    def test_document(self):
        system, plain = adder_system(crashes=1), adder_system(crashes=0)
        self.assertEqual(Beside(plain, plain).lengths(), (0,) * 10 + (2268,))
        self.assertEqual(Beside(system, plain).state_count(), 224)
        self.assertEqual(parts(system), [system])

    def test_one_system(self):
        for _, _, listing in drawn_listings(range(0, 432, 9)):
            self.assertEqual(numbers_of(Beside(listing.system)), own_numbers(listing.system))

    def test_against_all_mixtures(self):
        listings = [one for _, _, one in drawn_listings(range(0, 432, 2), 40) if len(one.whole[-1][0]) < 7]
        counted = 0
        for one, other in zip(listings, [*listings[1::3], *listings[::2]]):
            mixed = [
                (mixture, (one.face(end), other.face(last)))
                for (steps, end), (more, last) in itertools.product(one.whole, other.whole)
                for mixture in mixtures(steps, more)
            ]
            if len(mixed) > 20000:
                continue
            counted += len(mixed)
            beside = Beside(one.system, other.system)
            longest = max(len(mixture) for mixture, _ in mixed)
            lengths = [len(mixture) for mixture, _ in mixed]
            self.assertEqual(beside.lengths(), tuple(lengths.count(length) for length in range(longest + 1)))
            self.assertEqual(beside.end_count(), len({face for _, face in mixed}))
            systems = (one.system, other.system)
            self.assertEqual(beside.class_count(), len({class_of(systems, mixture) for mixture, _ in mixed}))
            self.assertEqual(beside.state_count(), len(set(itertools.product(one.states, other.states))))
        self.assertGreater(counted, 10000)

    def test_one_to_eight(self):
        system, plain = adder_system(crashes=1), adder_system(crashes=0)
        for many in range(1, 9):
            beside = Beside(*[system] * many)
            self.assertEqual(beside.systems, (system,) * many)
            self.assertEqual((beside.state_count(), beside.end_count(), beside.class_count()), (28 ** many, 2 ** many, 6 ** many))
            lengths = Beside(*[plain] * many).lengths()
            # The steps of each are told apart by their systems alone.
            whole = 3 ** many
            for at in range(many):
                for place in range(5):
                    whole = whole * (5 * at + place + 1) // (place + 1)
            self.assertEqual(lengths, (0,) * (5 * many) + (whole,))

    def test_other_numbers(self):
        systems = [adder_system(crashes=2), separate(2, crashes=0), adder_system(crashes=0), separate(1, crashes=2)]
        for some in itertools.permutations(systems, 3):
            told = numbers_of(Beside(*some))
            self.assertEqual(told, numbers_of(Beside(*some[::-1])))
            product = [own_numbers(one) for one in some]
            for at in (0, 1, 3):
                self.assertEqual(told[at], product[0][at] * product[1][at] * product[2][at])
            self.assertEqual(len(told[2]), sum(len(one[2]) - 1 for one in product) + 1)

    def test_numbers(self):
        for systems in ((), (adder_system(),) * 9, (adder_system(),) * 20):
            with self.assertRaises(InvalidCount) as caught:
                Beside(*systems)
            self.assertEqual(caught.exception.value, len(systems))

    def test_too_many(self):
        small, big = adder_system(), too_many()
        for systems in ((big,), (small, big), (big, small), (small, small, big), (big, big)):
            beside = Beside(*systems)
            for call in (beside.state_count, beside.end_count, beside.lengths, beside.class_count):
                with self.assertRaises(TooMany) as caught:
                    call()
                self.assertEqual(caught.exception.most, 2000)
            self.assertEqual(beside.systems, systems)
        enough = Beside(just_enough(), just_enough())
        self.assertEqual(enough.state_count(), 4000000)
        self.assertEqual(enough.class_count(), count_classes(just_enough()) ** 2)
        self.assertGreater(sum(enough.lengths()), sum(by_length(just_enough())) ** 2)

    def test_systems_is_a_tuple(self):
        systems = [adder_system(), separate(1)]
        beside = Beside(*systems)
        systems.clear()
        self.assertEqual(beside.systems, (adder_system(), separate(1)))
        self.assertEqual(numbers_of(beside), numbers_of(beside))


def sending(*kinds):
    return tuple(("send", kind, None, ("body",)) for kind in kinds)


def side_by_side(spec, other):
    """The specification of two that share nothing as one, the other one under other names; None if that is too much."""
    names = {one["name"]: one["name"][::-1] + "x" for one in other["services"]}
    kinds = dict(zip(other["kinds"], ("m", "mm", "mmm")))
    again = renamed(other, kinds, names, {"a": "a", "n": "n"}, {"j": "j", "k": "k"})
    joined = {part: [*again[part], *spec[part]] for part in ("kinds", "services", "commands")}
    joined["kinds"] = [kind for pair in itertools.zip_longest(spec["kinds"], again["kinds"]) for kind in pair if kind]
    return joined if len(joined["services"]) <= 4 and len(joined["commands"]) <= 4 else None


def parts_by_reading(spec):
    """The groups of services and kinds that hang together: those that steps from one to the other reach."""
    plain = Plain(spec)
    links = {(name, kind) for name in plain.names for kind in [*plain.specs[name]["handlers"], *plain.sends(name)]}
    found = []
    for name in plain.names:
        if any(name in names for names, _ in found):
            continue
        names, kinds = {name}, set()
        for _ in range(20):
            kinds |= {kind for one, kind in links if one in names}
            names |= {one for one, kind in links if kind in kinds}
        found.append((names, kinds))
    systems = []
    for names, kinds in found:
        systems.append({
            "kinds": [kind for kind in spec["kinds"] if kind in kinds],
            "services": [one for one in spec["services"] if one["name"] in names],
            "commands": [command for command in spec["commands"] if command[0] in kinds],
        })
    return [system_of(one) for one in systems]


class TestParts(unittest.TestCase):
    def test_drawn_systems(self):
        several = 0
        for seed in range(400):
            spec = drawn_spec(seed, most_faults=2)
            system = system_of(spec)
            told = parts(system)
            with self.subTest(seed):
                self.assertEqual(told, parts_by_reading(spec))
                self.assertIsInstance(told, list)
            several += len(told) > 1
        self.assertGreater(several, 30)

    def test_the_numbers_of_the_parts(self):
        several = 0
        drawn = [(spec, listing) for _, spec, listing in drawn_listings(range(0, 432, 3), 100)]
        for (spec, one), (more, other) in zip(drawn, [*drawn[5::2], *drawn[::2]]):
            joined = side_by_side(spec, more)
            if joined is None or len(one.states) * len(other.states) > 2000:
                continue
            system = system_of(joined)
            told = parts(system)
            self.assertEqual(told, parts_by_reading(joined))
            several += len(told) > 1
            self.assertEqual(numbers_of(Beside(*told)), own_numbers(system))
            self.assertEqual(count_states(system), len(one.states) * len(other.states))
            self.assertEqual(count_classes(system), one.classes() * other.classes())
        self.assertGreater(several, 50)

    def test_where_the_system_leads_to_more_states(self):
        system = separate(4, crashes=2)
        with self.assertRaises(TooMany):
            count_states(system)
        told = parts(system)
        self.assertEqual(told, [separate_part(system, at) for at in range(4)])
        beside = Beside(*told)
        self.assertEqual((beside.state_count(), beside.class_count()), (33 ** 4, 11 ** 4))
        # Three of them can be gone through by counting the states that schedules lead to, two by the package itself.
        both = separate(2, crashes=2)
        self.assertEqual(numbers_of(Beside(*parts(both))), own_numbers(both))

    def test_kinds_that_hang_together_by_a_service(self):
        # Handled by one service, sent by one, sent by two to one kind, handled by one and sent by another.
        cases = [
            ([Service("s", {"a": (), "d": ()})], [("s", "ad")]),
            ([Service("s", {"a": sending("f")})], [("s", "af")]),
            ([Service("s", {"a": sending("f")}), Service("t", {"b": sending("f")})], [("st", "abf")]),
            ([Service("s", {"a": sending("b")}), Service("t", {"b": ()})], [("st", "ab")]),
            ([Service("s", {"b": ()}), Service("t", {"a": sending("b")})], [("st", "ab")]),
            ([Service("s", {"a": ()}), Service("t", {"b": ()})], [("s", "a"), ("t", "b")]),
            ([Service("t", {"a": ()}), Service("s", {"b": ()})], [("s", "b"), ("t", "a")]),
            # Two groups that a third service makes one, whose name is the least or the greatest.
            ([Service("t", {"a": ()}), Service("u", {"b": sending("e")}), Service("s", {"c": sending("e", "f"), "d": ()})], [("su", "bcdef"), ("t", "a")]),
            ([Service("s", {"c": ()}), Service("t", {"d": ()}), Service("u", {"a": sending("c", "d")})], [("stu", "acd")]),
            ([Service("s", {"c": ()}), Service("t", {"b": ()}), Service("u", {"a": sending("c")})], [("su", "ac"), ("t", "b")]),
            ([Service("r", {"e": ()}), Service("s", {"c": ()}), Service("t", {"d": ()}), Service("u", {"a": sending("c", "d")})], [("r", "e"), ("stu", "acd")]),
            # Another one between those that are made one.
            ([Service("r", {"e": ()}), Service("s", {"b": ()}), Service("t", {"d": ()}), Service("u", {"a": sending("d", "e")})], [("rtu", "ade"), ("s", "b")]),
        ]
        commands = [(kind, "k", 1) for kind in "abfe"]
        for services, groups in cases:
            system = System(list("abcdef"), services, commands)
            told = parts(system)
            with self.subTest(groups):
                self.assertEqual([("".join(one.name for one in part.services), "".join(part.kinds)) for part in told], groups)
                for part, (_, kinds) in zip(told, groups):
                    self.assertEqual(part.commands, tuple(command for command in commands if command[0] in kinds))

    def test_kinds_of_no_part(self):
        # Nobody handles or sends w: neither the kind nor its command is in a part; the command of the sent kind is.
        system = System(["w", "a", "x"], [Service("s", {"a": sending("x")})], [("w", "k", 1), ("a", "k", 1), ("x", "k", 2)])
        (part,) = parts(system)
        self.assertEqual(part, System(["a", "x"], system.services, [("a", "k", 1), ("x", "k", 2)]))
        self.assertEqual(own_numbers(part), own_numbers(system))

    def test_ways_and_budgets_stay(self):
        way = ("before", "late", "ahead", "ahead")
        services = [Service("s", {"a": ()}, way, crashes=2, losses=3), Service("t", {"b": ()}, Ways.SAFE, crashes=1)]
        system = System(["a", "b"], services, [("b", "k", 1), ("a", "j", 2), ("b", "k", 3)])
        told = parts(system=system)
        self.assertEqual([part.services for part in told], [(services[0],), (services[1],)])
        self.assertEqual([part.commands for part in told], [(("a", "j", 2),), (("b", "k", 1), ("b", "k", 3))])

    def test_new_lists(self):
        system = separate(2)
        parts(system).clear()
        self.assertEqual(len(parts(system)), 2)
        self.assertEqual(system, separate(2))


def separate_part(system, at):
    """The part of one of services that share nothing, each with a kind and a command."""
    return System([system.kinds[at]], [system.services[at]], [system.commands[at]])


if __name__ == "__main__":
    unittest.main()

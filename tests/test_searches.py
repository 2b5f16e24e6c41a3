"""Ends, what they need, and the numbers of schedules, against all whole schedules that are listed [4] [40] [41]."""

import copy
import itertools
import unittest

from oncepost.errors import InvalidSystem
from oncepost.schedules import Schedule
from oncepost.searches import by_length, count_classes, count_states, ends, face_of, needs
from oncepost.systems import Service, System
from oncepost.ways import Ways
from tests.chains import separate
from tests.draws import drawn_spec, drawn_steps, system_of
from tests.listing import Listing, Moves, drawn_listings
from tests.samples import adder_system, odd_values, part_at, paths, replaced

NUMBERS = (count_states, by_length, count_classes)


class TestAgainstListing(unittest.TestCase):
    """At systems of all ways, with and without crashes and losses, with none to three commands."""

    def test_drawn_systems(self):
        faults, commands, several = set(), set(), 0
        for seed, spec, listing in drawn_listings(range(432)):
            system = listing.system
            with self.subTest(seed):
                least = listing.least(listing.face)
                told = [(face, least[face]) for face in sorted(least, key=repr)]
                self.assertEqual(ends(system), told)
                self.assertEqual(count_states(system), len(listing.states))
                self.assertEqual(by_length(system), listing.by_length())
                self.assertEqual(count_classes(system), listing.classes())
            faults |= {(one["crashes"] > 0, one["losses"] > 0) for one in spec["services"]}
            commands.add(len(spec["commands"]))
            several += len(told) > 1
        self.assertEqual((len(faults), commands), (4, {0, 1, 2, 3}))
        self.assertGreater(several, 80)

    def test_classes_are_normal_forms(self):
        for seed, _, listing in drawn_listings(range(0, 432, 3), 400):
            normal = {Schedule(listing.system, *steps).normal() for steps, _ in listing.whole}
            with self.subTest(seed):
                self.assertEqual(count_classes(listing.system), len(normal))

    def test_the_order_is_by_repr(self):
        # 10 is below 9 as a string, and -1 above both - though not as numbers.
        handler = (("if", ("=", ("row", "n"), ("value", 0)), (("set", "n", ("body",)),), ()),)
        way = ("outbox", "plain", "behind", "behind")
        services = [Service("ann", {"c": handler, "d": handler, "e": handler}, way)]
        system = System(["c", "d", "e"], services, [("c", "k", 9), ("d", "k", 10), ("e", "k", -1)])
        values = [face[1][0][0][0][1] for face, _ in ends(system)]
        self.assertEqual(values, [-1, 10, 9])

    def test_each_end_with_its_least_schedule(self):
        # The end without crashes comes by a longer one too, with a crash at once behind the take.
        system = adder_system(crashes=1)
        (_, longer), (face, least) = ends(system)
        take, commit, answer = ("take", "add"), ("commit", "adder"), ("answer", "add")
        relay, mark, crash = ("relay", "adder", "told"), ("mark", "adder", "told"), ("crash", "adder")
        self.assertEqual(least, (take, commit, answer, relay, mark))
        self.assertEqual(longer, (take, commit, answer, relay, crash, relay, mark))
        self.assertEqual(face_of(system.play(take, crash, take, commit, answer, relay, mark)), face)


class TestEdges(unittest.TestCase):
    def test_no_system_is_without_services(self):
        with self.assertRaises(InvalidSystem) as caught:
            System(["a"], [], [("a", "k", 1)])
        self.assertEqual(caught.exception.reason, "services")

    def still(self, system):
        face = face_of(system.begin)
        self.assertEqual(ends(system), [(face, ())])
        self.assertEqual((count_states(system), by_length(system), count_classes(system)), (1, (1,), 1))
        self.assertEqual(needs(system, face), [((0, 0),) * len(system.services)])

    def test_no_commands(self):
        self.still(System(["a"], [Service("s", {"a": ()})]))
        self.still(System(["a", "b"], [Service("s", {"a": ()}, crashes=3, losses=3), Service("t", {"b": ()})], []))

    def test_services_that_nothing_comes_to(self):
        self.still(System(["w", "a"], [Service("s", {"a": ()}, crashes=1)], [("w", "k", 1), ("w", "k", 1)]))

    def test_very_many_whole_schedules(self):
        system = separate(4, crashes=0)
        # Four services of four steps each, in any mixture: 16! / 4! ** 4.
        self.assertEqual(by_length(system), (0,) * 16 + (63063000,))
        self.assertEqual((count_states(system), count_classes(system), len(ends(system))), (625, 1, 1))

    def test_very_many_classes(self):
        # Each of two services is crashed at up to two times of its own.
        system = separate(2, crashes=2)
        alone = separate(1, crashes=2)
        self.assertEqual(count_states(system), count_states(alone) ** 2)
        self.assertEqual(count_classes(system), count_classes(alone) ** 2)
        self.assertEqual(count_classes(system), 121)
        self.assertGreater(sum(by_length(system)), 10 ** 6)
        self.assertEqual(count_classes(alone), Listing(alone).classes())


class TestNeeds(unittest.TestCase):
    def test_against_all_smaller_budgets(self):
        several = 0
        for seed, _, listing in drawn_listings(range(432), 300):
            system = listing.system
            own = [range(budget + 1) for one in system.services for budget in (one.crashes, one.losses)]
            faces = {}
            for flat in itertools.product(*own):
                budgets = tuple(zip(flat[::2], flat[1::2]))
                smaller = Listing(system.with_budgets(budgets))
                faces[budgets] = {smaller.face(end) for _, end in smaller.whole}
            for face, _ in ends(system):
                having = [budgets for budgets in faces if face in faces[budgets]]
                least = [
                    one for one in having if not any(other != one and self.within(other, one) for other in having)
                ]
                with self.subTest(seed, face=face):
                    self.assertEqual(needs(system, face), sorted(least))
                several += len(least) > 1
        self.assertGreater(several, 3)

    def within(self, one, other):
        flat, more = sum(one, ()), sum(other, ())
        return all(number <= bound for number, bound in zip(flat, more))

    def test_two_least_budgets(self):
        # Told twice: by a crash between relay and mark, or by a loss.
        system = adder_system(crashes=2).with_budgets([(2, 2)])
        face = [face for face, _ in ends(system) if len(face[0][1][0]) == 2][0]
        self.assertEqual(needs(system, face), [((0, 1),), ((1, 0),)])
        face = [face for face, _ in ends(system) if len(face[0][1][0]) == 4][0]
        self.assertEqual(needs(system, face), [((1, 2),), ((2, 1),)])

    def test_other_values(self):
        system = adder_system(crashes=1)
        faces = [face for face, _ in ends(system)]
        for face in faces:
            self.assertEqual(len(needs(system, face)), 1)
            for path in paths(face):
                part = part_at(face, path)
                other = None
                if isinstance(part, tuple):
                    other = replaced(face, path, list(part))
                elif part in (0, 1):
                    other = replaced(face, path, bool(part))
                    self.assertEqual(other, face)
                if other is not None:
                    self.assertEqual(needs(system, other), [])
        wrong = [None, True, 0, "", (), [], {}, faces, ends(system), system.begin, face_of(system.begin), (faces[0],)]
        wrong += [system.play(*ends(system)[0][1]), faces[0] + (1,), faces[0][0], {faces[0]: 1}]
        for value in wrong + odd_values():
            self.assertEqual(needs(system, value), [])

    def test_faces_of_other_systems(self):
        twice = adder_system(crashes=1)
        once = adder_system(crashes=0)
        other = System(["add", "tell"], [Service("adder", {"add": ()})], [("add", "k", 3)])
        for face, _ in ends(twice):
            self.assertEqual(needs(once, face), [((0, 0),)] if face == ends(once)[0][0] else [])
            self.assertEqual(needs(other, face), [])


def renamed(spec, kinds, services, names, keys):
    """The specification under other names, each of these a dict."""

    def tree(part):
        if part[0] == "row":
            return ("row", names[part[1]])
        return tuple(tree(one) if isinstance(one, tuple) else one for one in part)

    def deed(part):
        if part[0] == "set":
            return ("set", names[part[1]], tree(part[2]))
        if part[0] == "send":
            return ("send", kinds[part[1]], keys.get(part[2]), tree(part[3]))
        if part[0] == "if":
            return ("if", tree(part[1]), tuple(map(deed, part[2])), tuple(map(deed, part[3])))
        return part

    changed = []
    for one in spec["services"]:
        handlers = {kinds[kind]: tuple(map(deed, handler)) for kind, handler in one["handlers"].items()}
        changed.append({**one, "name": services[one["name"]], "handlers": handlers})
    commands = [(kinds[kind], keys[key], value) for kind, key, value in spec["commands"]]
    return {"kinds": [kinds[kind] for kind in spec["kinds"]], "services": changed, "commands": commands}


class TestOtherNames(unittest.TestCase):
    def test_the_same_numbers(self):
        services = {"ann": "z", "bob": "y", "cy": "x", "dan": "w"}
        for seed, spec, listing in drawn_listings(range(1, 432, 4)):
            kinds = {kind: word for kind, word in zip(spec["kinds"], ("zz", "yyyyyy", "x", "m"))}
            other = system_of(renamed(spec, kinds, services, {"a": "z", "n": "b"}, {"j": "y", "k": "c"}))
            with self.subTest(seed):
                for number in NUMBERS:
                    self.assertEqual(number(other), number(listing.system))
                mine, others = ends(listing.system), ends(other)
                self.assertEqual(sorted(len(steps) for _, steps in mine), sorted(len(steps) for _, steps in others))
                # The services come in the other order.
                told = sorted(budgets[::-1] for face, _ in mine for budgets in needs(listing.system, face))
                self.assertEqual(told, sorted(budgets for face, _ in others for budgets in needs(other, face)))


class TestFaceOf(unittest.TestCase):
    def test_any_state(self):
        for seed in range(60):
            system = system_of(drawn_spec(seed, most_faults=3))
            steps = drawn_steps(system, seed)
            for many in range(len(steps) + 1):
                state = system.play(*steps[:many])
                logs, services = face_of(state)
                self.assertEqual(logs, state[0])
                self.assertEqual([(*own, 0, 0) for own in services], [(*own[:5], 0, 0) for own in state[1]])

    def test_document(self):
        face = face_of(state=adder_system().begin)
        self.assertEqual(face, ((((((0,), ("add", "k", 3)),), 0), ((), 0)), (((), (), (), ((), None), None),)))


class TestCalls(unittest.TestCase):
    def test_by_name(self):
        system = adder_system()
        for call in (*NUMBERS, ends):
            self.assertEqual(call(system=system), call(system))
        face = ends(system)[0][0]
        self.assertEqual(needs(face=face, system=system), [((1, 0),)])

    def test_what_is_returned_is_new(self):
        system = adder_system()
        told = ends(system)
        face = told[0][0]
        for call in (lambda: ends(system), lambda: needs(system, face)):
            first = call()
            kept = list(first)
            self.assertIsInstance(first, list)
            first.clear()
            self.assertEqual(call(), kept)
        for number in NUMBERS:
            self.assertEqual(number(system), number(system))
        self.assertIsInstance(by_length(system), tuple)
        for face, steps in told:
            self.assertIsInstance(steps, tuple)

    def test_what_is_passed_stays(self):
        system = adder_system()
        for value in ([[1], {"a": [2]}], {"a": [1]}, [list(ends(system)[0][0])]):
            before = copy.deepcopy(value)
            needs(system, value)
            self.assertEqual(value, before)
        self.assertEqual(system, adder_system())

    def test_states_that_are_listed(self):
        # The plain search itself: three whole schedules without a crash.
        system = adder_system(crashes=0)
        moves = Moves(system)
        self.assertEqual((moves.how_many(system.begin), len(Listing(system).whole)), (3, 3))
        self.assertEqual(len(Ways.every()), 36)


if __name__ == "__main__":
    unittest.main()

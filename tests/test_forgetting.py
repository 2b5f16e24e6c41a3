"""Things of states: which are asked for again, by which least steps, and what may be forgotten [4] [60] [61] [62]."""

import itertools
import random
import unittest

from oncepost.errors import NoThing, TooMany
from oncepost.forgetting import alive, dead, forget, kept, may_forget, things
from oncepost.papers import bars
from oncepost.searches import face_of
from oncepost.systems import Service, System
from oncepost.ways import Ways
from tests.bounds import just_enough, too_many
from tests.draws import drawn_spec, drawn_steps, system_of
from tests.listing import rank, states_from
from tests.plain import Plain
from tests.reading import Reading
from tests.samples import adder_system, odd_values, paths, part_at, replaced

TAKE, COMMIT, ANSWER = ("take", "add"), ("commit", "adder"), ("answer", "add")
CRASH = ("crash", "adder")
THING = ("adder", (0,))
PASS = (("send", "b", None, ("body",)),)


def drawn_states(seeds, most=150):
    """States with things that lead to few states, of systems drawn at random: each with its system and specification."""
    for seed in seeds:
        spec = drawn_spec(seed, most_faults=2, most_commands=2, most_kinds=3)
        draw = random.Random(seed)
        for one in spec["services"]:
            one["way"] = (one["way"][0], draw.choice(("inbox", "late")), *one["way"][2:])
        system = system_of(spec)
        steps = drawn_steps(system, seed)
        for many in range(len(steps) + 1):
            state = system.play(*steps[:many])
            if things(system, state) and len(states_from(system, state, most)) <= most:
                yield seed, spec, system, state


def asking(system, state):
    """A plain search: for all that steps from a state ask for the least of them."""
    key = rank(system)
    layer = {state: ()}
    found = {}
    while layer:
        above = {}
        asked = {}
        for one, steps in layer.items():
            for step in system.possible(one):
                longer = (*steps, step)
                if step[0] == "take":
                    entries, position = one[0][system.kinds.index(step[1])]
                    asked.setdefault((system.service_of(step[1]), entries[position][0]), []).append(longer)
                above.setdefault(system.after(one, step), []).append(longer)
        for thing, every in asked.items():
            found.setdefault(thing, min(every, key=key))
        layer = {after: min(every, key=key) for after, every in above.items()}
    return found


def kept_by_rule(spec, state):
    """A plain reading of point 61."""
    plain = Plain(spec)
    logs = dict(zip(plain.kinds, state[0]))
    parts = dict(zip(plain.names, state[1]))
    handled = {name: list(plain.specs[name]["handlers"]) for name in plain.names}

    def comes(ident, name):
        for kind in handled[name]:
            entries, position = logs[kind]
            if ident in [one for one, _ in entries[position:]]:
                return True
        for rows, inbox, book, outs, hand, _, _ in parts.values():
            waiting = [entry for box in outs[::2] for entry in box] + [held for held in outs[1::2] if held is not None]
            waiting += [deed[2:] for deed in (hand[2] if hand else ()) if deed[0] == "post"]
            if any(one == ident and message[0] in handled[name] for one, message in waiting):
                return True
        if len(ident) < 2:
            return False
        return any(runs(ident[:-1], other) for other in plain.names if set(plain.sends(other)) & set(handled[name]))

    def runs(ident, name):
        hand = parts[name][4]
        held = hand is not None and logs[hand[0]][0][hand[1]][0] == ident and ("commit",) in hand[2]
        return ident not in parts[name][1] and (held or comes(ident, name))

    return [(name, ident) for name in plain.names for ident in parts[name][1] if comes(ident, name)]


class TestThings(unittest.TestCase):
    def test_against_plain_searches(self):
        numbers = {"alive": 0, "dead": 0, "dead but kept": 0, "long": 0}
        for seed, spec, system, state in drawn_states(range(400)):
            asked = asking(system, state)
            every = [(one.name, ident) for one, own in zip(system.services, state[1]) for ident in own[1]]
            with self.subTest(seed, state=state):
                self.assertEqual(things(system, state), sorted(every))
                for thing in every:
                    told = alive(system, state, thing)
                    self.assertEqual(told, asked.get(thing))
                    numbers["alive" if told else "dead"] += 1
                    numbers["long"] += told is not None and len(told) > 2
                told = dead(system, state)
                self.assertEqual(told, [thing for thing in sorted(every) if thing not in asked])
                keeping = kept(system, state)
                self.assertEqual(keeping, kept_by_rule(spec, state))
                # What is not kept is dead.
                self.assertEqual([thing for thing in every if thing not in keeping and thing not in told], [])
                numbers["dead but kept"] += len([thing for thing in keeping if thing in told])
        self.assertGreater(min(numbers.values()), 15)

    def test_the_steps_lead_to_the_take(self):
        for _, _, system, state in drawn_states(range(0, 100, 3)):
            for thing in things(system, state):
                steps = alive(system, state, thing)
                if steps is None:
                    continue
                self.assertIsInstance(steps, tuple)
                for step in steps[:-1]:
                    state = system.after(state, step)
                self.assertIn(steps[-1], system.possible(state))
                entries, position = state[0][system.kinds.index(steps[-1][1])]
                self.assertEqual((system.service_of(steps[-1][1]), entries[position][0]), thing)
                break

    def test_document(self):
        system = adder_system(crashes=1)
        state = system.play(TAKE, COMMIT)
        later = system.after(state, ANSWER)
        self.assertEqual(things(system, state), [THING])
        self.assertEqual(alive(system, state, THING), (CRASH, TAKE))
        self.assertIsNone(alive(system, later, THING))
        self.assertEqual([kept(system, state), kept(system, later), dead(system, state), dead(system, later)], [[THING], [], [], [THING]])
        self.assertEqual(things(system, system.begin), [])
        self.assertEqual([kept(system, system.begin), dead(system, system.begin)], [[], []])

    def test_dead_though_kept(self):
        # The rule does not look at budgets.
        system = adder_system(crashes=0)
        state = system.play(TAKE, COMMIT)
        self.assertEqual([kept(system, state), dead(system, state)], [[THING], [THING]])

    def test_the_order(self):
        # Services by name, ids as tuples.
        services = [Service("z", {"a": ()}), Service("b", {"c": (), "d": ()})]
        system = System(["a", "c", "d"], services, [("a", "k", 1), ("d", "k", 1), ("c", "k", 1)])
        state = system.begin
        for name, kind in (("z", "a"), ("b", "c"), ("b", "d")):
            for step in (("take", kind), ("commit", name), ("answer", kind)):
                state = system.after(state, step)
        every = [("b", (1,)), ("b", (2,)), ("z", (0,))]
        self.assertEqual([things(system, state), dead(system, state), kept(system, state)], [every, every, []])


class TestRule(unittest.TestCase):
    """Each clause of point 61 alone, at two services: ann sends b to bob."""

    def system(self, first=Ways.SAFE, **budgets):
        services = [Service("ann", {"a": PASS}, first, **budgets), Service("bob", {"b": ()})]
        return System(["a", "b"], services, [("a", "k", 1)])

    # Bob has taken, committed and answered what he got first.
    DONE = (("take", "b"), ("commit", "bob"), ("answer", "b"))
    BOB = ("bob", (0, 0))

    def told(self, system, *steps):
        return self.BOB in kept(system, system.play(*steps))

    def test_in_a_log(self):
        system = self.system(crashes=1)
        begun = (("take", "a"), ("commit", "ann"), ("answer", "a"), ("relay", "ann", "b"), ("take", "b"), ("commit", "bob"))
        # At its position.
        self.assertIs(self.told(system, *begun, ("mark", "ann", "b")), True)
        self.assertIs(self.told(system, *begun, ("mark", "ann", "b"), ("answer", "b")), False)
        # Behind it.
        self.assertIs(self.told(system, *begun, ("crash", "ann"), ("relay", "ann", "b"), ("mark", "ann", "b"), ("answer", "b")), True)

    def test_in_an_outbox_and_held(self):
        system = self.system(losses=1)
        begun = (("take", "a"), ("commit", "ann"), ("answer", "a"))
        outbox = (*begun, ("lose", "ann", "b"), *self.DONE)
        self.assertIs(self.told(system, *outbox), True)
        ahead = self.system(("outbox", "inbox", "behind", "ahead"), losses=1)
        held = (*begun, ("mark", "ann", "b"), ("lose", "ann", "b"), *self.DONE)
        self.assertIs(self.told(ahead, *held), True)
        self.assertIs(self.told(ahead, *held, ("relay", "ann", "b"), ("take", "b"), ("answer", "b")), False)

    def test_in_a_post(self):
        system = self.system(("after", "inbox", "behind", "behind"), losses=1)
        begun = (("take", "a"), ("commit", "ann"), ("lose", "ann", "b"), *self.DONE)
        self.assertIs(self.told(system, *begun), True)
        self.assertIs(self.told(system, *begun, ("post", "ann", "b"), ("take", "b"), ("answer", "b")), False)

    def test_held_for_one_of_two_kinds(self):
        # What is held for b, whichever of the two kinds that ann sends it is.
        for kinds in (["a", "b", "w"], ["a", "w", "b"]):
            handler = (("send", "b", None, ("body",)), ("send", "w", None, ("body",)))
            way = ("outbox", "inbox", "behind", "ahead")
            services = [Service("ann", {"a": handler}, way, losses=1), Service("bob", {"b": ()})]
            system = System(kinds, services, [("a", "k", 1)])
            begun = [("take", "a"), ("commit", "ann"), ("answer", "a"), ("mark", "ann", "b"), ("lose", "ann", "b"), *self.DONE]
            self.assertIs(self.told(system, *begun), True)
            self.assertIs(self.told(system, *begun, ("relay", "ann", "b"), ("take", "b"), ("answer", "b")), False)

    def test_on_its_way_for_a_kind_of_another_service(self):
        # The first run of the parent sent b to bob, the second one c to cy, with the same id.
        first = ("=", ("row", "n"), ("value", 0))
        count = ("set", "n", ("value", 1))
        handler = (("if", first, (("send", "b", None, ("body",)),), (("send", "c", None, ("body",)),)), count)
        for marking in ("behind", "ahead"):
            way = ("outbox", "late", "behind", marking)
            services = [Service("ann", {"a": handler}, way, crashes=1), Service("bob", {"b": ()}), Service("cy", {"c": ()})]
            system = System(["a", "b", "c"], services, [("a", "k", 1)])
            steps = [("take", "a"), ("commit", "ann"), ("crash", "ann"), ("take", "a"), ("commit", "ann"), ("note", "ann")]
            steps += [("answer", "a")]
            heads = ("relay", "mark") if marking == "behind" else ("mark", "relay")
            steps += [(head, "ann", "b") for head in heads]
            steps += self.DONE
            outbox = system.play(*steps)
            self.assertEqual(kept(system, outbox), [])
            held = system.after(outbox, (heads[0], "ann", "c"))
            self.assertEqual(kept(system, held), [])
            self.assertEqual(dead(system, held), [("ann", (0,)), ("bob", (0, 0))])
        # The same in posts of a hand.
        way = ("after", "late", "behind", "behind")
        services = [Service("ann", {"a": handler}, way, crashes=1), Service("bob", {"b": ()}), Service("cy", {"c": ()})]
        system = System(["a", "b", "c"], services, [("a", "k", 1)])
        steps = [("take", "a"), ("commit", "ann"), ("post", "ann", "b"), ("crash", "ann"), ("take", "a"), ("commit", "ann")]
        state = system.play(*steps, *self.DONE)
        # The parent is in no inbox yet, so it may be run again.
        self.assertEqual(kept(system, state), [self.BOB])
        state = system.play(*steps, ("post", "ann", "c"), ("note", "ann"), *self.DONE)
        self.assertEqual(kept(system, state), [("ann", (0,))])

    def test_the_parent_in_a_log(self):
        # The parent was posted for, but not yet committed: it may be run again.
        system = self.system(("before", "inbox", "behind", "behind"), crashes=1)
        begun = (("take", "a"), ("post", "ann", "b"), *self.DONE)
        self.assertIs(self.told(system, *begun, ("crash", "ann")), True)
        self.assertIs(self.told(system, *begun), True)
        # It is in the inbox now.
        self.assertIs(self.told(system, *begun, ("commit", "ann")), False)

    def test_the_parent_in_a_hand(self):
        # Answered for already: only the hand has still to commit it.
        system = self.system(("before", "late", "ahead", "behind"), crashes=1)
        begun = (("take", "a"), ("answer", "a"), ("post", "ann", "b"), *self.DONE)
        self.assertIs(self.told(system, *begun), True)
        self.assertIs(self.told(system, *begun, ("commit", "ann")), False)
        self.assertIs(self.told(system, *begun, ("crash", "ann")), False)

    def test_grandparents(self):
        pass_on = (("send", "c", None, ("body",)),)
        way = ("before", "inbox", "behind", "behind")
        services = [Service("ann", {"a": PASS}, way), Service("bob", {"b": pass_on}, way), Service("cy", {"c": ()}, way)]
        system = System(["a", "b", "c"], services, [("a", "k", 1)])
        steps = [("take", "a"), ("post", "ann", "b"), ("take", "b"), ("post", "bob", "c")]
        steps += [("take", "c"), ("commit", "cy"), ("answer", "c")]
        thing = ("cy", (0, 0, 0))
        self.assertEqual(kept(system, system.play(*steps)), [thing])
        steps += [("commit", "bob"), ("answer", "b")]
        self.assertEqual(kept(system, system.play(*steps)), [("bob", (0, 0))])
        # Bob forgets: then his parent may bring the message again, and he may run it.
        state = forget(system, system.play(*steps), ("bob", (0, 0)))
        self.assertEqual(kept(system, state), [thing])
        self.assertEqual(kept(system, system.play(*steps, ("commit", "ann"))), [("ann", (0,))])
        self.assertEqual(kept(system, system.play(*steps, ("commit", "ann"), ("answer", "a"))), [])


class TestForget(unittest.TestCase):
    def test_none_one_and_several(self):
        several = 0
        for _, _, system, state in drawn_states(range(0, 200, 3)):
            every = things(system, state)
            for many in range(min(len(every), 3) + 1):
                for chosen in itertools.permutations(every, many):
                    after = forget(system, state, *chosen)
                    self.assertEqual(things(system, after), [thing for thing in every if thing not in chosen])
                    self.assertEqual(after[0], state[0])
                    self.assertEqual([(own[0], *own[2:]) for own in after[1]], [(own[0], *own[2:]) for own in state[1]])
                    several += many > 1
        self.assertGreater(several, 50)

    def test_without_dead_things_the_same_steps_are_possible_for_ever(self):
        left_out = 0
        for seed, _, system, state in drawn_states(range(200), 80):
            draw = random.Random(seed)

            def without(one):
                chosen = [thing for thing in dead(system, one) if draw.randrange(2)]
                return forget(system, one, *chosen)

            pairs = {(state, without(state)): True}
            waiting = list(pairs)
            for one, other in waiting:
                possible = system.possible(one)
                self.assertEqual(system.possible(other), possible)
                self.assertEqual([one[0], face_of(one)[0]], [other[0], face_of(other)[0]])
                left_out += one != other
                for step in possible:
                    pair = (system.after(one, step), without(system.after(other, step)))
                    if pair not in pairs and len(pairs) < 150:
                        pairs[pair] = True
                        waiting.append(pair)
        self.assertGreater(left_out, 500)

    def test_forgotten_states_are_passed_on(self):
        for seed, spec, system, state in drawn_states(range(0, 160, 4), 60):
            draw = random.Random(seed)
            reading = Reading(spec, system)
            every = things(system, state)
            chosen = draw.sample(every, draw.randint(1, len(every)))
            for one in states_from(system, forget(system, state, *chosen))[:20]:
                asked = asking(system, one)
                mine = things(system, one)
                self.assertEqual(mine, sorted((name, x) for name, own in zip(reading.plain.names, one[1]) for x in own[1]))
                self.assertEqual([alive(system, one, thing) for thing in mine], [asked.get(thing) for thing in mine])
                self.assertEqual(dead(system, one), [thing for thing in mine if thing not in asked])
                self.assertEqual(kept(system, one), kept_by_rule(spec, one))
                self.assertEqual(set(mine) - set(kept(system, one)) - set(dead(system, one)), set())
                self.assertEqual(face_of(one)[0], one[0])
                possible = system.possible(one)
                for step in system.all_steps:
                    told = [] if step in possible else reading.bars(one, step)
                    self.assertEqual(bars(system, one, step), told)

    def test_what_is_forgotten_is_run_again(self):
        system = adder_system(crashes=1)
        state = forget(system, system.play(TAKE, COMMIT), THING)
        state = system.after(system.after(state, CRASH), TAKE)
        self.assertEqual(state[1][0][4], ("add", 0, (("commit",), ("answer",))))
        state = system.after(state, COMMIT)
        self.assertEqual(state[1][0][1:3], (((0,),), (((0,), 2, 1),)))


def bare_ends(system, state):
    """The ends that can be come to but for inboxes, books and budgets, each with the least steps: a plain search."""
    key = rank(system)
    layer = {state: ()}
    found = {}
    while layer:
        above = {}
        for one, steps in layer.items():
            if not system.possible(one):
                services = tuple((rows, outs, hand) for rows, _, _, outs, hand, _, _ in one[1])
                face = (one[0], services)
                if face not in found or key(steps) < key(found[face]):
                    found[face] = steps
            for step in system.possible(one):
                above.setdefault(system.after(one, step), []).append((*steps, step))
        layer = {after: min(every, key=key) for after, every in above.items()}
    return found


class TestMayForget(unittest.TestCase):
    def test_against_plain_searches(self):
        told = {None: 0, 0: 0, 1: 0}
        for seed, _, system, state in drawn_states(range(0, 260, 2), 100):
            every = things(system, state)
            draw = random.Random(seed)
            for chosen in ([], every[:1], every, draw.sample(every, draw.randint(1, len(every)))):
                without = forget(system, state, *chosen)
                if len(states_from(system, without)) > 2000:
                    continue
                both = [bare_ends(system, state), bare_ends(system, without)]
                expected = None
                for which in (1, 0):
                    own = sorted((face for face in both[which] if face not in both[1 - which]), key=repr)
                    if own:
                        expected = (which, own[0], both[which][own[0]])
                with self.subTest(seed, chosen=chosen):
                    self.assertEqual(may_forget(system, state, *chosen), expected)
                told[expected and expected[0]] += 1
                if not chosen or all(thing in dead(system, state) for thing in chosen):
                    self.assertIsNone(expected)
        self.assertGreater(min(told.values()), 2)

    def test_document(self):
        system = adder_system(crashes=1)
        state = system.play(TAKE, COMMIT)
        which, face, steps = may_forget(system, state, THING)
        self.assertEqual(which, 1)
        ended = forget(system, state, THING)
        for step in steps:
            ended = system.after(ended, step)
        self.assertEqual(face, (ended[0], tuple((own[0], own[3], own[4]) for own in ended[1])))
        self.assertEqual(face[1][0], (((("n", "k"), 6),), ((), None), None))
        self.assertIsNone(may_forget(system, system.play(TAKE, COMMIT, ANSWER), THING))
        self.assertIsNone(may_forget(system, state))

    def test_with_them_comes_first(self):
        # With the thing the second entry of the id is answered for alone; without it the row is set once more.
        way = ("after", "inbox", "behind", "behind")
        count = (("set", "n", ("+", ("row", "n"), ("value", 1))),)
        services = [Service("ann", {"a": PASS}, way, losses=1), Service("bob", {"b": count}, way)]
        system = System(["a", "b"], services, [("a", "k", 1)])
        state = system.play(("take", "a"), ("commit", "ann"), ("lose", "ann", "b"), ("take", "b"), ("commit", "bob"))
        which, face, steps = may_forget(system, state, ("bob", (0, 0)))
        self.assertEqual((which, face[1][1][0]), (0, ((("n", "k"), 1),)))
        key = rank(system)
        self.assertEqual(steps, min([(("answer", "b"), ("post", "ann", "b"), ("answer", "a"), ("take", "b"), ("answer", "b")), steps], key=key))


NO_THINGS = [None, True, 0, "", (), "adder", ("adder",), ("adder", 0), ("adder", (1,)), ("adder", (0, 0)), ("add", (0,))]
NO_THINGS += [("adder", (False,)), ("adder", [0]), ["adder", (0,)], ("adder", (0,), 0), [THING], (THING,), {}, {THING: 1}]
NO_THINGS += [("adder", ()), ("adder", ("0",)), (0, ("adder",)), ("adder", (0,), ()), ("adder", (None,)), ("", (0,))]


class TestErrors(unittest.TestCase):
    def refuse(self, value, call, *values):
        with self.subTest(values):
            with self.assertRaises(NoThing) as caught:
                call(*values)
            self.assertIs(caught.exception.thing, value)

    def test_no_thing(self):
        system = adder_system(crashes=1)
        state = system.play(TAKE, COMMIT)
        for value in NO_THINGS + odd_values():
            self.refuse(value, alive, system, state, value)
            for call in (forget, may_forget):
                self.refuse(value, call, system, state, value)
                self.refuse(value, call, system, state, THING, value)
                self.refuse(value, call, system, state, value, THING, THING)
        for call in (alive, forget, may_forget):
            self.refuse(THING, call, system, system.begin, THING)

    def test_other_values_that_are_equal(self):
        system = adder_system(crashes=1)
        state = system.play(TAKE, COMMIT)
        for path in paths(THING):
            part = part_at(THING, path)
            if isinstance(part, (tuple, int)):
                other = replaced(THING, path, list(part) if isinstance(part, tuple) else bool(part))
                self.refuse(other, alive, system, state, other)

    def test_things_twice(self):
        services = [Service("s", {"a": ()})]
        system = System(["a"], services, [("a", "k", 1), ("a", "k", 1)])
        state = system.play(*(("take", "a"), ("commit", "s"), ("answer", "a")) * 2)
        first, second = ("s", (0,)), ("s", (1,))
        for call in (forget, may_forget):
            for values in ((first, first), (first, second, first), (first, first, None), (second, first, second, second)):
                with self.assertRaises(NoThing) as caught:
                    call(system, state, *values)
                self.assertEqual(caught.exception.thing, values[-1] if values[-1] is not None else first)
            self.assertIsNotNone(forget(system, state, first, second))

    def test_too_many(self):
        # The beginning of a system that leads to 2,001 states, with a thing that a schedule has left.
        system = self.one_more(too_many())
        begun = self.done(system)
        self.assertEqual(len(states_from(system, begun)), 2001)
        thing = ("z", (3,))
        self.assertEqual(things(system, begun), [thing])
        for call in (alive, may_forget):
            with self.assertRaises(TooMany) as caught:
                call(system, begun, thing)
            self.assertEqual(caught.exception.most, 2000)
            self.refuse(None, call, system, begun, None)
        with self.assertRaises(TooMany):
            dead(system, begun)
        with self.assertRaises(TooMany):
            may_forget(system, begun)
        # The rule and the state without things have no bound.
        self.assertEqual(kept(system, begun), [])
        self.assertEqual(things(system, forget(system, begun, thing)), [])
        enough = self.one_more(just_enough())
        begun = self.done(enough)
        self.assertEqual(len(states_from(enough, begun)), 2000)
        thing = things(enough, begun)[0]
        self.assertIsNone(alive(enough, begun, thing))
        self.assertEqual(dead(enough, begun), [thing])
        self.assertIsNone(may_forget(enough, begun, thing))

    def one_more(self, system):
        """The system and a service that shares nothing with it."""
        services = [*system.services, Service("z", {"z": ()})]
        return System([*system.kinds, "z"], services, [*system.commands, ("z", "k", 1)])

    def done(self, system):
        return system.play(("take", "z"), ("commit", "z"), ("answer", "z"))

    def test_too_many_without_the_things_alone(self):
        # With the thing the second copy is answered for; without it its run sends messages that lead to many states.
        way = ("after", "inbox", "behind", "behind")
        sends = (("send", "c", None, ("body",)), ("send", "d", None, ("body",)), ("send", "c", None, ("body",)))
        services = [
            Service("ann", {"a": PASS}, way, losses=1),
            Service("bob", {"b": (("if", ("=", ("row", "n"), ("value", 1)), sends, ()), ("set", "n", ("value", 1)))}, crashes=2, losses=3),
        ]
        system = System(["a", "b", "c", "d"], services, [("a", "k", 1)])
        state = system.play(("take", "a"), ("commit", "ann"), ("lose", "ann", "b"), ("take", "b"), ("commit", "bob"))
        thing = ("bob", (0, 0))
        self.assertLess(len(states_from(system, state)), 2000)
        self.assertGreater(len(states_from(system, forget(system, state, thing))), 2000)
        self.assertIsNotNone(alive(system, state, thing))
        with self.assertRaises(TooMany):
            may_forget(system, state, thing)


class TestCalls(unittest.TestCase):
    def test_by_name(self):
        system = adder_system(crashes=1)
        state = system.play(TAKE, COMMIT)
        self.assertEqual(things(state=state, system=system), [THING])
        self.assertEqual(alive(thing=THING, state=state, system=system), (CRASH, TAKE))
        self.assertEqual([dead(state=state, system=system), kept(state=state, system=system)], [[], [THING]])

    def test_new_lists(self):
        system = adder_system(crashes=0)
        state = system.play(TAKE, COMMIT)
        for call in (things, dead, kept):
            first = call(system, state)
            self.assertEqual(first, [THING])
            first.clear()
            self.assertEqual(call(system, state), [THING])
        self.assertEqual(forget(system, state, THING), forget(system, state, THING))
        self.assertEqual(state, system.play(TAKE, COMMIT))


if __name__ == "__main__":
    unittest.main()

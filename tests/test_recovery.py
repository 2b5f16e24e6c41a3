"""What is left when logs are cut, or are any texts, against a plain reading of point 82 [4] [82]."""

import copy
import random
import re
import unittest

from oncepost.errors import InvalidState
from oncepost.halls import LoggedHall
from oncepost.handlers import run_handler
from oncepost.searches import face_of
from tests.draws import drawn_spec, drawn_steps, system_of
from tests.listing import states_from
from tests.plain import Plain
from tests.samples import adder_system, odd_values
from tests.test_logs import text_names

NUMBER = r"(0|[1-9][0-9]{0,8})"
VALUE = r"(0|-?[1-9][0-9]?)"
WORD = r"([a-z]{1,6})"
IDENT = r"((?:0|[1-9][0-9]{0,8})(?:,(?:0|[1-9][0-9]{0,8}))*)"
KIND_LINE = re.compile(rf"{NUMBER} (answer|(post|relay|lose) {WORD} {IDENT} {WORD} {VALUE}) {IDENT} {NUMBER}")
SERVICE_LINE = re.compile(rf"{NUMBER} ((commit|note) {WORD} {NUMBER}|mark {WORD}) {IDENT} {NUMBER}")


def with_sum(start):
    """A line with a right sum, from what stands before it, the space included."""
    return f"{start}{sum((at + 1) * ord(start[at]) for at in range(len(start))) % 9973}\n"


class Recovery:
    """A plain reading: the texts are gone through again and again, the state is that of the plain system."""

    def __init__(self, spec, texts):
        self.plain = Plain(spec)
        self.names = text_names(self.plain)
        self.texts = texts
        self.taken = dict.fromkeys(self.names, 0)
        while any(self.take(name) for name in self.names):
            pass

    def take(self, name):
        """Takes the next line of a text, if it can be taken."""
        whole = self.texts[name].split("\n")[:-1]
        if len(whole) == self.taken[name]:
            return False
        line = whole[self.taken[name]]
        sort, own = name.split(" ")
        told = (KIND_LINE if sort == "kind" else SERVICE_LINE).fullmatch(line)
        if told is None or int(told[1]) != self.taken[name] + 1 or with_sum(line[:line.rindex(" ") + 1]) != line + "\n":
            return False
        clock = [int(number) for number in line.split(" ")[-2].split(",")]
        if len(clock) != len(self.names):
            return False
        if not all(number <= self.taken[one] for number, one in zip(clock, self.names)):
            return False
        words = told[2].split(" ")
        if not getattr(self, "do_" + sort)(own, words):
            return False
        self.taken[name] += 1
        return True

    def do_kind(self, kind, words):
        plain = self.plain
        if words == ["answer"]:
            if kind not in plain.owner or not len(plain.logs[kind]) > plain.positions[kind]:
                return False
            plain.positions[kind] += 1
            return True
        word, name, ident, key, value = words
        if name not in plain.specs or kind not in plain.sends(name):
            return False
        outbox = plain.specs[name]["way"][0] == "outbox"
        if word == ("post" if outbox else "relay"):
            return False
        entry = {"id": tuple(map(int, ident.split(","))), "message": (kind, key, int(value)), "needs": set()}
        plain.append(kind, entry)
        return True

    def do_service(self, name, words):
        plain = self.plain
        service = plain.services[name]
        if words[0] == "mark":
            if words[1] not in service["outs"] or not service["outs"][words[1]]["box"]:
                return False
            service["outs"][words[1]]["box"].pop(0)
            return True
        word, kind, place = words
        if plain.owner.get(kind) != name or not int(place) < len(plain.logs[kind]):
            return False
        entry = plain.logs[kind][int(place)]
        keeping = plain.specs[name]["way"][1]
        if word == "note":
            if keeping == "late":
                self.keep(service, entry["id"])
            return keeping == "late"
        end = run_handler(plain.specs[name]["handlers"][kind], plain.rows_of(service), entry["message"])
        sends = ()
        if end[0] == "done":
            service["rows"], sends = dict(end[1]), end[2]
        if plain.specs[name]["way"][0] == "outbox":
            for at, sent in enumerate(sends):
                service["outs"][sent[0]]["box"].append({"id": (*entry["id"], at), "message": sent, "needs": set()})
        if keeping == "inbox":
            self.keep(service, entry["id"])
        commits, most = service["book"].get(entry["id"], (0, 0))
        service["book"][entry["id"]] = (commits + 1, max(most, len(sends)))
        return True

    def keep(self, service, ident):
        if ident not in service["inbox"]:
            service["inbox"].append(ident)


def hall_of(system, steps):
    hall = LoggedHall(system)
    hall.do(*steps)
    return hall


class TestCut(unittest.TestCase):
    """Of texts of a hall."""

    def holds(self, spec, system, texts):
        """That what is recovered is what the plain reading tells; returns it."""
        state, counts = LoggedHall.recovered(system, texts)
        reading = Recovery(spec, texts)
        self.assertEqual(counts, reading.taken)
        self.assertEqual(state, reading.plain.tree())
        return state, counts

    def test_uncut(self):
        for seed in range(200):
            spec = drawn_spec(seed, most_faults=3)
            system = system_of(spec)
            draw = random.Random(seed)
            steps = drawn_steps(system, seed)
            steps = steps[:draw.randint(0, len(steps))]
            hall = hall_of(system, steps)
            state, counts = self.holds(spec, system, hall.texts)
            self.assertEqual(counts, {name: text.count("\n") for name, text in hall.texts.items()})
            # The state itself, without hands, with nothing held, and with all budgets.
            begun = [(None, own[5], own[6]) for own in system.begin[1]]
            self.assertEqual(state[0], hall.state[0])
            for own, other, last in zip(state[1], hall.state[1], begun):
                rows, inbox, book, outs, *rest = own
                self.assertEqual((rows, inbox, book, outs[::2], tuple(rest)), (*other[:3], other[3][::2], last))
                self.assertEqual(set(outs[1::2]) - {None}, set())

    def test_cut_at_every_character(self):
        whole, cuts = 0, 0
        for seed in range(120):
            spec = drawn_spec(seed, most_faults=1, most_commands=2, most_kinds=3)
            system = system_of(spec)
            more = system.with_budgets([(one.crashes + 1, one.losses) for one in system.services])
            states = states_from(more, more.begin, 3000)
            if len(states) > 3000:
                continue
            whole += 1
            faces = {face_of(state) for state in states}
            hall = hall_of(system, drawn_steps(system, seed))
            texts = hall.texts
            draw = random.Random(seed)
            some = {name: texts[name][:draw.randint(0, len(texts[name]))] for name in texts}
            told = set()
            for name, text in texts.items():
                for at in range(len(text) + 1):
                    for others in (texts, some):
                        cut = {**others, name: text[:at]}
                        key = tuple(one[:one.rfind("\n") + 1] for one in cut.values())
                        state, counts = LoggedHall.recovered(system, cut)
                        self.assertIn(face_of(state), faces)
                        if key not in told:
                            told.add(key)
                            self.holds(spec, system, cut)
                        self.assertEqual([own[5:] for own in state[1]], [own[5:] for own in system.begin[1]])
                        for one in cut:
                            self.assertLessEqual(counts[one], cut[one].count("\n"))
                        cuts += 1
        self.assertGreater(whole, 80)
        self.assertGreater(cuts, 5000)

    def test_every_text_cut_anywhere(self):
        for seed in range(150):
            spec = drawn_spec(seed, most_faults=2)
            system = system_of(spec)
            texts = hall_of(system, drawn_steps(system, seed)).texts
            draw = random.Random(seed)
            for _ in range(20):
                cut = {name: text[:draw.randint(0, len(text))] for name, text in texts.items()}
                self.holds(spec, system, cut)

    def test_what_is_taken_is_taken_as_far_as_it_goes(self):
        # The relay needs the commit: without the service's text none of the kind's is taken.
        system = adder_system(crashes=0)
        steps = [("take", "add"), ("commit", "adder"), ("relay", "adder", "told"), ("mark", "adder", "told"), ("answer", "add")]
        texts = hall_of(system, steps).texts
        none = {"kind add": 0, "kind told": 0, "service adder": 0}
        self.assertEqual(LoggedHall.recovered(system, {**texts, "service adder": ""}), (system.begin, none))
        first = texts["service adder"].splitlines(keepends=True)[0]
        state, counts = LoggedHall.recovered(system, {**texts, "service adder": first})
        self.assertEqual(counts, {"kind add": 1, "kind told": 1, "service adder": 1})
        self.assertEqual(state[1][0][3], ((((0, 0), ("told", "k", 3)),), None))
        state, counts = LoggedHall.recovered(system, {**texts, "kind told": ""})
        # The mark needs the relay.
        self.assertEqual(counts, {"kind add": 1, "kind told": 0, "service adder": 1})


class TestAnyTexts(unittest.TestCase):
    def setUp(self):
        self.holds = TestCut().holds

    def changed(self, draw, text):
        """A text with something changed at random; sums are made right again, or not."""
        lines = text.split("\n")[:-1]
        choice = draw.randrange(9)
        if choice == 0:
            return text + draw.choice(["x", "\n", " ", "1 commit", "1 answer 0\n", "1\n", "~" * 5, "\n\n"])
        if not lines:
            return draw.choice(["", "\n", "0 answer 0 0\n", "x"])
        at = draw.randrange(len(lines))
        if choice == 1:
            other = draw.randrange(len(lines))
            lines[at], lines[other] = lines[other], lines[at]
        elif choice == 2:
            lines.insert(at, lines[draw.randrange(len(lines))])
        elif choice == 3:
            del lines[at]
        elif choice == 4 and lines[at]:
            place = draw.randrange(len(lines[at]))
            lines[at] = lines[at][:place] + draw.choice("0123456789 ,-abn") + lines[at][place + 1:]
        else:
            lines[at] = self.line_changed(draw, lines[at])
        return "\n".join(lines) + "\n" * (draw.randrange(8) > 0)

    def line_changed(self, draw, line):
        """The line with one of its parts changed, and a right sum."""
        parts = line.split(" ")
        if len(parts) < 2:
            return with_sum(line + " ")[:-1]
        at = draw.randrange(len(parts) - 1)
        part = parts[at]
        others = [part + "0", "0" + part, "-" + part, part[:-1], part + ",0", part.rpartition(",")[0], part.replace("1", "2")]
        others += ["0", "1", "2", "99", "100", "-99", "-100", "-0", "00", "1000000000", "999999999", "", "k", "kk", "ann", "bob"]
        others += ["post", "relay", "lose", "commit", "note", "mark", "answer", "take", "crash", "K", "a" * 6, "a" * 7, "+1"]
        parts[at] = draw.choice(others)
        return with_sum(" ".join(parts[:-1]) + " ")[:-1]

    def test_changed_texts(self):
        less, more = 0, 0
        for seed in range(400):
            spec = drawn_spec(seed, most_faults=2)
            system = system_of(spec)
            texts = hall_of(system, drawn_steps(system, seed)).texts
            draw = random.Random(seed)
            for _ in range(12):
                other = dict(texts)
                for _ in range(draw.randint(1, 2)):
                    name = draw.choice(list(other))
                    other[name] = self.changed(draw, other[name])
                with self.subTest(seed, texts=other):
                    _, counts = self.holds(spec, system, other)
                missing = sum(counts.values()) < sum(text.count("\n") for text in other.values())
                less += missing
                more += not missing
        self.assertGreater(min(less, more), 500)

    def made_up(self, draw, system, name):
        """What a line of a text might tell: mostly of what the service handles and sends."""
        kinds = list(system.kinds)
        sort, own = name.split(" ")
        if sort == "kind":
            head = draw.choice(("answer", "post", "relay", "lose"))
            sender = draw.choice(system.services).name
            entry = f"{draw.randint(0, 1)},{draw.randint(0, 1)} zz {draw.randint(-9, 9)}"
            return head if head == "answer" else f"{head} {sender} {entry}"
        head = draw.choice(("commit", "commit", "commit", "note", "mark", "mark"))
        service = next(one for one in system.services if one.name == own)
        if draw.randrange(8):
            kinds = system.plan.sent_kinds[own] if head == "mark" else service.kinds
        kind = draw.choice(kinds or system.kinds)
        return f"mark {kind}" if head == "mark" else f"{head} {kind} {draw.choice((0, 0, 0, 1))}"

    def test_lines_that_are_made_up(self):
        # Right numbers, sums and forms, whatever is told: only what can be done is taken.
        taken = {}
        for seed in range(1000):
            spec = drawn_spec(seed, most_faults=1)
            for one in spec["services"] if seed % 2 else []:
                one["way"] = ("outbox", *one["way"][1:])
            system = system_of(spec)
            draw = random.Random(seed)
            texts = dict.fromkeys(LoggedHall(system).texts, "")
            for name in texts:
                for number in range(draw.randint(0, 6)):
                    clock = ",".join(str(int(draw.randrange(20) == 0)) for _ in texts)
                    texts[name] += with_sum(f"{number + 1} {self.made_up(draw, system, name)} {clock} ")
            with self.subTest(seed):
                _, counts = self.holds(spec, system, texts)
            for name, count in counts.items():
                for line in texts[name].splitlines()[:count]:
                    word = line.split(" ")[1]
                    taken[word] = taken.get(word, 0) + 1
        self.assertEqual(set(taken), {"answer", "post", "relay", "lose", "commit", "note", "mark"})
        self.assertGreater(min(taken.values()), 5)


class TestLines(unittest.TestCase):
    """Single lines of the adder's system, each taken or not."""

    def setUp(self):
        self.system = adder_system(crashes=1)

    def counts(self, name, text, system=None):
        texts = {"kind add": "", "kind told": "", "service adder": "", name: text}
        return LoggedHall.recovered(system or self.system, texts)[1][name]

    def taken(self, name, start):
        """Whether a line with a right sum is taken, which begins so."""
        return self.counts(name, with_sum(start)) == 1

    def test_the_form(self):
        right = "1 commit add 0 0,0,0 "
        self.assertIs(self.taken("service adder", right), True)
        wrong = ["01 commit add 0 0,0,0 ", "2 commit add 0 0,0,0 ", "0 commit add 0 0,0,0 ", "+1 commit add 0 0,0,0 "]
        wrong += ["1 commit add 00 0,0,0 ", "1 commit add -0 0,0,0 ", "1 commit add 0 0,0 ", "1 commit add 0 0,0,0,0 "]
        wrong += ["1 commit add 0 0,0,00 ", "1 commit add 0 0,0, ", "1 commit add 0 ,0,0,0 ", "1 commit add 0 0,0,-0 "]
        wrong += ["1  commit add 0 0,0,0 ", " 1 commit add 0 0,0,0 ", "1 commit add 0 0,0,0  ", "1 commit add 0  0,0,0 "]
        wrong += ["1 commit add 0 0 0,0,0 ", "1 commit add 0,0,0 ", "1 commit add  0,0,0 ", "1 Commit add 0 0,0,0 "]
        wrong += ["1 commit add 0 0,0,0", "1 commit 0,0,0 ", "1 0,0,0 ", "1 ", " ", "", "1 commit add 0 0,0,1000000000 "]
        wrong += ["1 commit add 1000000000 0,0,0 ", "1 commit add 1 0,0,0 ", "1 commit told 0 0,0,0 ", "1 commit x 0 0,0,0 "]
        wrong += ["1 commit  0 0,0,0 ", "1 commit add x 0,0,0 ", "1 take add 0 0,0,0 ", "1 crash 0,0,0 ", "1 answer 0,0,0 "]
        wrong += ["1 commit add 0 0,0,1 ", "1 commit add 0 1,0,0 ", "1 commit add 0 0,1,0 ", "1 note add 0 0,0,0 "]
        wrong += ["1 mark told 0,0,0 ", "1 mark add 0,0,0 ", "1 relay adder 0,0 k 3 0,0,0 ", "1\tcommit add 0 0,0,0 "]
        # Digits that are none from 0 to 9.
        wrong += ["1 commit add \u0660 0,0,0 ", "\u00b9 commit add 0 0,0,0 ", "1 commit add 0 0,0,\u00b2 "]
        for start in wrong:
            with self.subTest(start):
                self.assertIs(self.taken("service adder", start), False)

    def test_sums(self):
        line = with_sum("1 commit add 0 0,0,0 ")
        self.assertEqual(line, "1 commit add 0 0,0,0 3717\n")
        for wrong in ("3718", "03717", "3717 ", " 3717", "", "-3717", "13690", "3717.", "+3717", "\u0663717", "371"):
            self.assertEqual(self.counts("service adder", line.replace("3717", wrong)), 0)
        for wrong in (line[:-1], line[:-1] + "\r\n", line[:-1] + " \n", "\n" + line, " " + line, "x" + line, "\f" + line):
            self.assertEqual(self.counts("service adder", wrong), 0)
        for behind in ("", "x", "2", "2 commit", "\n", " \n", line, "x\n" + line, "2 x\n", line[:-1]):
            self.assertEqual(self.counts("service adder", line + behind), 1)
        # A sum of one digit, modulo 9973.
        for value in range(-99, 100):
            start = f"1 relay adder 0 k {value} 0,0,0 "
            told = with_sum(start)
            self.assertEqual(self.counts("kind told", told), 1)
            self.assertEqual(self.counts("kind told", told.replace(start, start[:-1] + "0 ")), 0)

    def test_entries(self):
        right = ["relay adder 0 k 3", "lose adder 0,0 k 3", "relay adder 999999999,0 abcdef -99", "relay adder 5,5,5,5,5,5,5,5 z 99"]
        right += ["relay adder 7 k 0", "lose adder 7 k -1"]
        wrong = ["post adder 0 k 3", "relay told 0 k 3", "relay add 0 k 3", "relay x 0 k 3", "relay  0 k 3", "relay adder  k 3"]
        wrong += ["relay adder , k 3", "relay adder 0, k 3", "relay adder 00 k 3", "relay adder -1 k 3", "relay adder 1000000000 k 3"]
        wrong += ["relay adder 0 K 3", "relay adder 0 abcdefg 3", "relay adder 0  3", "relay adder 0 k 100", "relay adder 0 k -100"]
        wrong += ["relay adder 0 k -0", "relay adder 0 k 03", "relay adder 0 k --3", "relay adder 0 k -", "relay adder 0 k +3"]
        wrong += ["relay adder 0 k", "relay adder 0 k 3 3", "relay adder (0,) k 3", "relay adder 0 k x", "relay adder 0 k1 3", "relay"]
        wrong += ["lose adder 0 k -03", "lose adder 0 k 1000000000", "answer", "commit add 0", "mark told"]
        for what in right:
            texts = {"kind add": "", "kind told": with_sum(f"1 {what} 0,0,0 "), "service adder": ""}
            state, counts = LoggedHall.recovered(self.system, texts)
            _, _, ident, key, value = what.split(" ")
            self.assertEqual(counts["kind told"], 1)
            entry = (tuple(map(int, ident.split(","))), ("told", key, int(value)))
            self.assertEqual(state[0][1], ((entry,), 0))
        for what in wrong:
            with self.subTest(what):
                self.assertIs(self.taken("kind told", f"1 {what} 0,0,0 "), False)
        # Nobody sends add.
        self.assertIs(self.taken("kind add", "1 relay adder 0 k 3 0,0,0 "), False)
        after = adder_system(way=("after", "plain", "behind", "behind"))
        for head, many in (("post", 1), ("lose", 1), ("relay", 0)):
            self.assertEqual(self.counts("kind told", with_sum(f"1 {head} adder 0 k 3 0,0,0 "), after), many)

    def test_answers(self):
        lines = [with_sum(f"{number} answer 0,0,0 ") for number in (1, 2)]
        # One entry: the second answer can't be done.
        self.assertEqual(self.counts("kind add", "".join(lines)), 1)
        self.assertEqual(self.counts("kind told", lines[0]), 0)
        state, _ = LoggedHall.recovered(self.system, {"kind add": lines[0], "kind told": "", "service adder": ""})
        self.assertEqual([log[1] for log in state[0]], [1, 0])

    def test_commits_notes_and_marks(self):
        first, second = [with_sum(f"{number} commit add 0 0,0,0 ") for number in (1, 2)]
        texts = {"kind add": "", "kind told": "", "service adder": first + second + with_sum("3 mark told 0,0,0 ")}
        state, counts = LoggedHall.recovered(self.system, texts)
        self.assertEqual(counts["service adder"], 3)
        rows, inbox, book, outs, hand, crashes, losses = state[1][0]
        # Twice committed: the id is in the inbox once.
        self.assertEqual((rows, inbox, book), (((("n", "k"), 6),), ((0,),), (((0,), 2, 1),)))
        self.assertEqual((outs, hand, crashes, losses), (((((0, 0), ("told", "k", 6)),), None), None, 1, 0))
        late = adder_system(way=("before", "late", "behind", "behind"))
        notes = [with_sum(f"{number} note add 0 0,0,0 ") for number in (1, 2)]
        state, counts = LoggedHall.recovered(late, {**texts, "service adder": "".join(notes)})
        self.assertEqual((counts["service adder"], state[1][0][1], state[1][0][2]), (2, ((0,),), ()))
        # Marks with too few and too many words, of other kinds, and one mark more than there are entries.
        for what in ("mark", "mark told told", "mark told 0", "mark  told", "mark add", "mark x", "note told 0"):
            wrong = {**texts, "service adder": first + with_sum(f"2 {what} 0,0,0 ")}
            self.assertEqual(LoggedHall.recovered(self.system, wrong)[1]["service adder"], 1)
        marks = "".join(with_sum(f"{number} mark told 0,0,0 ") for number in (2, 3))
        _, counts = LoggedHall.recovered(self.system, {**texts, "service adder": first + marks})
        self.assertEqual(counts["service adder"], 2)
        # A commit posts nothing, a mark needs an outbox.
        state, counts = LoggedHall.recovered(late, {**texts, "service adder": first + with_sum("2 mark told 0,0,0 ")})
        self.assertEqual((counts["service adder"], state[0][1], state[1][0][3]), (1, ((), 0), ()))

    def test_the_first_text_first(self):
        # Both texts can go on by turns: what is taken first is the kinds', so the place is there for the commit.
        texts = {"kind add": "", "kind told": with_sum("1 lose adder 9 k 5 0,0,1 "), "service adder": ""}
        self.assertEqual(LoggedHall.recovered(self.system, texts)[1]["kind told"], 0)
        texts["service adder"] = with_sum("1 commit add 0 0,1,0 ")
        self.assertEqual(sum(LoggedHall.recovered(self.system, texts)[1].values()), 0)
        texts["service adder"] = with_sum("1 commit add 0 0,0,0 ")
        self.assertEqual(sum(LoggedHall.recovered(self.system, texts)[1].values()), 2)


class TestInvalidState(unittest.TestCase):
    def refuse(self, value, system=None):
        with self.subTest(value):
            with self.assertRaises(InvalidState) as caught:
                LoggedHall.recovered(system or adder_system(), value)
            self.assertIs(caught.exception.value, value)

    def test_any_value(self):
        texts = LoggedHall(adder_system()).texts
        wrong = [None, True, 0, "", (), [], {}, list(texts), list(texts.items()), tuple(texts.items()), "kind add"]
        wrong += [{**texts, "kind x": ""}, {**texts, "": ""}, {**texts, None: ""}, {**texts, 1: ""}]
        for name in texts:
            left = {one: text for one, text in texts.items() if one != name}
            wrong += [left, {**left, name + " ": ""}, {**left, (name,): ""}, {**left, name.upper(): ""}, {**left, 0: ""}]
            for value in [None, True, 0, (), [], [""], ("",), {}, b"", 3] + odd_values():
                if not isinstance(value, str):
                    wrong.append({**texts, name: value})
        wrong += [{name.replace(" ", "  "): "" for name in texts}, {name.split(" ")[1]: "" for name in texts}]
        for value in wrong + odd_values():
            self.refuse(value)
        self.refuse(LoggedHall(adder_system()))
        self.refuse(texts, system_of(drawn_spec(1)))

    def test_any_strings(self):
        system = adder_system()
        names = list(LoggedHall(system).texts)
        for text in ["", "x", "\n", "\n" * 50, "1", "a b c d\n" * 20, "\x00", "\u2028\n", "1 answer 0,0,0 \n", "\r\n", "%d\n" * 3]:
            told = LoggedHall.recovered(system, {name: text for name in names})
            self.assertEqual(told, (system.begin, dict.fromkeys(names, 0)))

    def test_calls(self):
        system = adder_system()
        hall = hall_of(system, [("take", "add"), ("commit", "adder")])
        texts = hall.texts
        before = copy.deepcopy(texts)
        told = LoggedHall.recovered(texts=texts, system=system)
        self.assertEqual(hall.recovered(system, texts), told)
        self.assertEqual(texts, before)
        self.assertIsInstance(told, tuple)
        told[1].clear()
        state, counts = LoggedHall.recovered(system, dict(reversed(texts.items())))
        self.assertEqual(counts, {"kind add": 0, "kind told": 0, "service adder": 1})
        self.assertEqual(list(state[0]), list(told[0][0]))


if __name__ == "__main__":
    unittest.main()

"""[37]: desks."""

import random
import unittest

import samples
import slow
from pagesworn.children import most_children
from pagesworn.desk import Desk
from pagesworn.errors import NoCommand, NoText, SwornError, Wrong
from pagesworn.forms import is_deed, is_forest, is_wish, places_of
from pagesworn.kernel import Kernel
from pagesworn.need import capacity, live, need
from pagesworn.texts import deed_line, house_text, read_deed, read_house
from pagesworn.wishes import first_house
from pagesworn.worths import who_can_give


def random_step(rng, house):
    """A step of any sort, a read among them."""
    places = list(places_of(house))
    if rng.random() < 0.3:
        return ("read",) + (rng.choice(places) if places and rng.random() < 0.9 else (rng.randint(0, 9), rng.randint(0, 9)))
    if places and rng.random() < 0.3:
        return ("write",) + rng.choice(places) + (rng.randint(-9, 9),)
    if not house[4] or rng.random() < 0.1:
        return ("begin", rng.randrange(len(house[2])), rng.randint(0, 4), (((0, 1, 2), rng.randint(0, 3)),))
    if rng.random() < 0.12:
        return ("group", rng.randrange(len(house[2])), rng.choice((None, 1, 2, 4)))
    return samples.random_step(rng, house)


def answer_of(kernel, step):
    """The lines that a kernel answers to a step."""
    try:
        if step[0] == "read":
            return [str(kernel.read(*step[1:]))]
        return [kernel.do(step) if is_deed(step) else kernel.wish(step)]
    except SwornError as error:
        return ["error " + type(error).__name__]


def drawn(seed, many=25, room=None):
    """A desk, a kernel that has done the same, and a source of chance."""
    rng = random.Random(seed)
    frames, slots = rng.randint(2, room or 6), rng.randint(0, room or 6)
    desk, kernel = Desk(f"room {frames} {slots}"), Kernel(frames, slots)
    for _ in range(many):
        step = random_step(rng, kernel.house())
        desk.execute(deed_line(step))
        answer_of(kernel, step)
    return rng, desk, kernel


def lot_word(lot):
    return ",".join(str(number) for number in lot) if lot else "none"


def spaced(rng, line):
    """The line with more blanks."""
    return " " * rng.randint(0, 2) + "".join(char if char != " " else " " * rng.randint(1, 3) for char in line) + " " * rng.randint(0, 2)


class Steps(unittest.TestCase):
    def test_all_steps_are_those_of_a_kernel(self):
        seen = set()
        for seed in range(150):
            rng, desk, kernel = drawn(8000 + seed, 0)
            for _ in range(25):
                step = random_step(rng, kernel.house())
                told = answer_of(kernel, step)
                self.assertEqual(desk.execute(spaced(rng, deed_line(step))), told)
                self.assertEqual(desk.kernel(), kernel)
                seen.add((step[0], told[0] if step[0] != "read" or told[0].startswith("error") else "content"))
            self.assertEqual([desk.kernel().log(), desk.kernel().paper(), desk.kernel().flow()], [kernel.log(), kernel.paper(), kernel.flow()])
        for word in slow.STEPS:
            self.assertTrue({(word, answer) for answer in ("done", "granted", "copy")} & seen, word)
        self.assertTrue({("write", "place"), ("write", "refused"), ("fork", "refused"), ("read", "content"), ("read", "error NoPlace"),
                         ("read", "error NoProcess"), ("fork", "error NoGroup"), ("back", "error NoSnapshot"), ("lessen", "error NoTicket")} <= seen)

    def test_too_many(self):
        desk = Desk("room 2 0\nbegin 0 100")
        told = {"more 0 21": "error TooMany", f"more 0 {10 ** 39}": "error TooMany", "begin 0 21 0:1": "error TooMany", "fork 0 0 0:5": "error TooMany",
                "begin 9 500": "error NoGroup", "more 4 500": "error NoProcess", "more 0 20": "granted"}
        for line, answer in told.items():
            self.assertEqual(desk.execute(line), [answer])

    def test_undo_and_redo(self):
        for seed in range(60):
            rng, desk, kernel = drawn(8200 + seed, 12)
            for _ in range(25):
                word = rng.choice(("undo", "redo", "undo", "redo", "step"))
                if word == "step":
                    step = random_step(rng, kernel.house())
                    self.assertEqual(desk.execute(deed_line(step)), answer_of(kernel, step))
                    continue
                try:
                    getattr(kernel, word)()
                    told = ["done"]
                except SwornError:
                    told = ["error Nothing"]
                self.assertEqual(desk.execute(spaced(rng, word)), told)
                self.assertEqual([desk.kernel(), desk.kernel().log()], [kernel, kernel.log()])
        desk = Desk("room 2 0")
        self.assertEqual([desk.execute("undo"), desk.execute("redo"), desk.text()], [["error Nothing"], ["error Nothing"], "room 2 0"])


class Looks(unittest.TestCase):
    def test_need_groups_and_house(self):
        rows = 0
        for seed in range(120):
            rng, desk, kernel = drawn(8300 + seed)
            house = kernel.house()
            self.assertEqual(desk.execute("need"), [f"{live(house)} {need(house)} {capacity(house)}"])
            groups = [f"{group} {slow.group_live(house, group)} {slow.need(slow.inside(house, group))} {room}"
                      for group, (_, room) in enumerate(house[2]) if room is not None]
            self.assertEqual(desk.execute(" groups "), groups)
            rows += len(groups)
            self.assertEqual(desk.execute("house"), house_text(house).split("\n"))
            self.assertEqual(read_house("\n".join(desk.execute("house"))), house)
            self.assertEqual(desk.kernel(), kernel)
        self.assertGreater(rows, 100)
        self.assertEqual(Desk("room 2 0").execute("groups"), [])

    def test_why(self):
        seen = set()
        for seed in range(200):
            rng, desk, kernel = drawn(8500 + seed, seed % 5 * 6)
            paper = kernel.paper()
            told = desk.execute("why")
            if paper is None:
                self.assertEqual(told, [])
                continue
            word, shown = paper[1]
            if word == "refused":
                lines = ["refused " + ("capacity" if shown[0] is None else str(shown[0]))] + [deed_line(deed) for deed in shown[1]]
                self.assertTrue(all(is_deed(read_deed(line)) for line in told[1:]))
            else:
                lines = ["granted"]
                for group, cut in shown:
                    lines.append(" ".join(["capacity" if group is None else str(group)] + [lot_word(part) for part in cut]))
            self.assertEqual(told, lines)
            seen.add(told[0] if len(told) == 1 or word == "granted" else told[0].split()[0] + str(told[0].endswith("capacity")))
            seen.add(("rows", min(len(told), 4)))
        self.assertTrue({"granted", "refusedTrue", "refusedFalse", ("rows", 2), ("rows", 3), ("rows", 4)} <= seen, seen)

    def test_why_by_hand(self):
        desk = Desk("room 2 0")
        self.assertEqual(desk.execute("why"), [])
        for line, told in (("begin 0 3 0,1,2:2", ["granted", "capacity 0 none none"]), ("group 0 1", ["granted", "capacity 0 none none", "1 none none none"]),
                           ("move 0 1", ["refused 1", "write 0 0 0", "write 0 1 0"]), ("frames 2", ["granted", "capacity 0 none none", "1 none none none"]),
                           ("raise 0 0,1,2:3", ["refused capacity", "write 0 0 0", "write 0 1 0", "write 0 2 0"])):
            desk.execute(line)
            self.assertEqual(desk.execute("why"), told)
        self.assertEqual([desk.execute("read 9 9"), desk.execute("fork 9 0"), desk.execute("drop 0 0"), desk.execute("why")[0]],
                         [["error NoProcess"], ["error NoProcess"], ["done"], "refused capacity"])
        self.assertEqual([desk.execute("undo"), desk.execute("undo"), desk.execute("why")[0], desk.execute("redo"), desk.execute("why")[0]],
                         [["done"], ["done"], "granted", ["done"], "refused capacity"])

    def test_give(self):
        given = errors = 0
        for seed in range(250):
            rng, desk, kernel = drawn(8800 + seed)
            for _ in range(12):
                wish = random_step(rng, kernel.house())
                if not is_wish(wish):
                    with self.assertRaises(NoCommand):
                        desk.execute("give " + deed_line(wish))
                    continue
                trial = answer_of(kernel.twin(), wish)
                told = desk.execute(spaced(rng, "give " + deed_line(wish)))
                if trial[0].startswith("error"):
                    errors += 1
                    self.assertEqual(told, trial)
                else:
                    self.assertEqual(told, [f"{process} {lot_word(lot)} {many}" for process, lot, many in who_can_give(kernel.house(), wish)])
                    given += len(told)
                    self.assertTrue(told == [] or trial == ["refused"])
            self.assertEqual([desk.kernel(), desk.kernel().log()], [kernel, kernel.log()])
        self.assertTrue(given > 30 and errors > 50, (given, errors))
        desk = Desk("room 2 0\nbegin 0 100")
        self.assertEqual([desk.execute("give begin 0 21"), desk.execute("give more 0 20"), desk.execute("give fork 0 3")],
                         [["error TooMany"], [], ["error NoGroup"]])

    def test_most(self):
        seen = set()
        for seed in range(150):
            rng, desk, kernel = drawn(9000 + seed)
            for _ in range(8):
                process, group = rng.randint(0, kernel.house()[3][0]), rng.randint(0, len(kernel.house()[2]))
                forest = samples.random_forest(rng, range(rng.randint(0, 5)), 4, 2)
                words = [f"{lot_word(rng.sample(lot, len(lot)))}:{number}" for lot, number in rng.sample(forest, len(forest))]
                told = desk.execute(spaced(rng, " ".join(["most", str(process), str(group)] + words)))
                try:
                    many = most_children(kernel.house(), process, group, forest)
                    self.assertEqual(told, ["all" if many is None else str(many)])
                    seen.add(min(many, 2) if many is not None else None)
                except SwornError as error:
                    self.assertEqual(told, ["error " + type(error).__name__])
                    seen.add(type(error).__name__)
            self.assertEqual(desk.kernel(), kernel)
        self.assertTrue({None, 0, 1, 2, "NoProcess", "NoGroup"} <= seen, seen)


class OtherLines(unittest.TestCase):
    def test_no_commands(self):
        desk = Desk("room 3 1\nbegin 0 2 0,1:2\nwrite 0 0 5")
        ahead = desk.text()
        wrong = ["", " ", "needs", "need 1", "need need", "Need", "groups 0", "group", "houses", "house 0", "why 0", "why not", "undo 1", "redo 1", "undo undo",
                 "give", "give need", "give undo", "give write 0 0 1", "give drop 0 0", "give exit 0", "give read 0 0", "give fork 0", "give fork 0 0 0:1 0:1",
                 "give give fork 0 0", "give fork 0 0 0,0:1", "most", "most 0", "most none 0", "most 0 none", "most 0 0 0", "most 0 0 0:1 0:2", "most 0 0 0,0:1",
                 "most 0 0 0,1:1 1,2:1", "most 0 0 0:", "most -1 0", "most 0 00", "most 0 0 none", "write 0 0", "read 0", "x", "room 4 1 1", "room 0 1",
                 "born 0 0", "zeros", "process 0 0 1", "all", "done", "none", "text", "kernel", "log", "paper", "flow", "0", "-", "need\t", "\tneed",
                 "writes 0 0 1", "frames 1", "common 0,0 1", "most 0 0 " + "1" * 41 + ":1"]
        for line in wrong:
            with self.subTest(line=line), self.assertRaises(NoCommand) as caught:
                desk.execute(line)
            self.assertEqual([vars(caught.exception), desk.text()], [{"line": line}, ahead])

    def test_no_string_without_line_feeds(self):
        desk = Desk("room 3 1\nbegin 0 2 0,1:2")
        ahead = desk.text()
        values = [value for value in samples.odd_values() if not isinstance(value, str)]
        for value in values + ["\n", "need\n", "\nneed", "need\nneed", "write 0 0\n5", " \n ", ["need"], ("need",), desk, b"need"]:
            with self.subTest(value=value), self.assertRaises(Wrong) as caught:
                desk.execute(value)
            self.assertEqual([vars(caught.exception), desk.text()], [{"place": 0}, ahead])

    def test_lists_are_new(self):
        desk = Desk("room 3 1\nbegin 0 2 0,1:2\ngroup 0 9")
        for line in ("need", "groups", "house", "why", "give fork 0 0 0,1:2", "most 0 0", "read 0 0", "slots 1"):
            first = desk.execute(line)
            self.assertIs(type(first), list)
            kept = list(first)
            first.append("x")
            self.assertEqual(desk.execute(line), kept)


class Texts(unittest.TestCase):
    def test_texts_with_blanks_and_empty_lines(self):
        desk = Desk("\n   \n  room   2  1 \n\n begin 0  2 0,1:2\n\n\nwrite 0 0   5\n  ")
        self.assertEqual(desk.text(), "room 2 1\nbegin 0 2 0,1:2\nwrite 0 0 5")
        self.assertEqual([desk.execute("need"), desk.execute("read 0 0")], [["1 2 3"], ["5"]])
        self.assertEqual([Desk("room 2 0").text(), Desk("  room  2   0").text()], ["room 2 0"] * 2)
        self.assertEqual(Desk(f"room {'9' * 40} {'9' * 40}").kernel().house(), first_house(int("9" * 40), int("9" * 40)))

    def test_errors_of_the_kernel_are_passed_over(self):
        text = "room 2 0\nread 0 0\nexit 4\nbegin 1 1\nbegin 0 1 0:1\nbegin 0 500\nfork 0 0 0:9\nbegin 0 4 0,1,2,3:4\ndrop 0 7\nlessen 0 0 1\nlessen 0 1 1\nback 0 0\nroom 1 1"
        desk = Desk(text)
        self.assertEqual(desk.text(), "room 2 0\nbegin 0 1 0:1\nfork 0 0 0:9\nbegin 0 4 0,1,2,3:4\nlessen 0 0 1")
        self.assertEqual([answer for _, answer in desk.kernel().log()], ["granted", "granted", "refused", "done"])

    def test_the_first_wrong_line(self):
        told = {"": 1, "\n": 2, "  \n \n": 3, "slots 0": 0, "room 1 0": 0, "room 2": 0, "room 2 0 0": 0, "room none 0": 0, "room 2 none": 0, "room 02 0": 0,
                "\n\nrom 2 0": 2, "x\nroom 2 0": 0, "room 2 0\nx": 1, "room 2 0\n\n\nbegin 0": 3, "room 2 0\nroom 2 0": None, "room 2 0\nroom 0 0": 1,
                "room 2 0\nundo": 1, "room 2 0\nneed": 1, "room 2 0\nexit 9\nwhy": 2, "room 2 0\nslots 0\nslots\nx": 2, "room -2 0": 0, "room 2 -1": 0,
                "born 0 0": 0, "room 2 0\nzeros": 1, "room 2 0\nwrite 0 0 -0": 1, "room " + "9" * 41 + " 0": 0, "Room 2 0": 0, "room 2 0 \n\t": 1,
                "room 2,3 0": 0, "begin 2 0": 0, "read 2 0": 0, "room\n2 0": 0}
        for text, line in told.items():
            with self.subTest(text=text):
                if line is None:
                    self.assertEqual(Desk(text).text(), "room 2 0")
                    continue
                with self.assertRaises(NoText) as caught:
                    Desk(text)
                self.assertEqual(vars(caught.exception), {"line": line})

    def test_no_string(self):
        for value in samples.odd_values() + [Desk("room 2 0"), Kernel(2, 0), ["room 2 0"], b"room 2 0"]:
            if not isinstance(value, str):
                with self.assertRaises(Wrong) as caught:
                    Desk(value)
                self.assertEqual(vars(caught.exception), {"place": 0})

    def test_text_makes_a_desk_with_an_equal_kernel_and_log(self):
        for seed in range(120):
            rng, desk, kernel = drawn(9300 + seed, 20)
            for _ in range(rng.randint(0, 5)):
                desk.execute("undo")
            other = Desk(desk.text())
            self.assertEqual(other.kernel(), desk.kernel())
            self.assertEqual([other.kernel().log(), other.kernel().paper(), other.text()], [desk.kernel().log(), desk.kernel().paper(), desk.text()])

    def test_kernel_is_a_twin(self):
        desk = Desk("room 2 1\nbegin 0 2 0,1:2")
        kernel = desk.kernel()
        self.assertIsInstance(kernel, Kernel)
        kernel.do(("write", 0, 0, 4))
        kernel.undo()
        kernel.undo()
        self.assertEqual([desk.text(), desk.execute("need"), desk.execute("redo")], ["room 2 1\nbegin 0 2 0,1:2", ["0 2 3"], ["error Nothing"]])
        self.assertEqual(desk.execute("undo"), ["done"])
        twin = desk.kernel()
        self.assertIsNone(twin.redo())
        self.assertEqual(len(twin.log()), 1)

    def test_a_forest_as_read(self):
        desk = Desk("room 9 9\nbegin 0 5 3,1:2 1:1 0:4")
        forest = desk.kernel().house()[4][0][3]
        self.assertTrue(is_forest(forest))
        self.assertEqual(desk.text(), "room 9 9\nbegin 0 5 0:4 1:1 1,3:2")


class GreatDesks(unittest.TestCase):
    def test_each_call_ends_within_moments(self):
        rng = random.Random(201)
        lines = ["room 200 200"] + [f"group {group} 90" for group in range(5)]
        for process in range(12):
            words = [f"{lot_word(lot)}:{number}" for lot, number in samples.ten_tickets(rng, range(10), 2)]
            lines.append(" ".join(["begin", str(process % 6), "10"] + words))
        lines += [f"write {rng.randrange(12)} {rng.randrange(10)} 7" for _ in range(60)] + ["snapshot 0", "snapshot 5"]
        with samples.moments(self):
            desk = Desk("\n".join(lines))
        self.assertGreater(len(places_of(desk.kernel().house())), 100)
        for line in ("need", "groups", "house", "why", "give frames 2", "give fork 0 0 0,1:9", "most 0 5 0,1:1", "most 3 0 0,1,2:2 5:9", "frames 2", "why",
                     "undo", "redo", "read 0 0"):
            with samples.moments(self):
                self.assertTrue(desk.execute(line) or line.startswith("give"))
        with samples.moments(self):
            self.assertEqual(Desk(desk.text()).kernel(), desk.kernel())

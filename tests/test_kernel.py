"""[36], with the guarantees [5] to [8]: kernels."""

import random
import unittest

import samples
import slow
from pagesworn.deeds import behind_deed, read, write_answer
from pagesworn.errors import NoPlace, NoProcess, Nothing, SwornError, TooMany, Wrong
from pagesworn.flows import flow_many, is_flow
from pagesworn.forms import is_deed, is_house, is_wish, places_of, readers_of
from pagesworn.grants import is_grant_paper, is_granted
from pagesworn.inside import is_kept
from pagesworn.kernel import Kernel
from pagesworn.keptflow import flow_behind, flow_behind_wish
from pagesworn.need import capacity, live, need
from pagesworn.refusals import answer_to, is_refusal_paper
from pagesworn.webs import web_of
from pagesworn.wishes import behind_wish, first_house

NINE = 10 ** 9 - 1


def state(kernel):
    return kernel.house(), kernel.flow(), kernel.paper(), kernel.need(), kernel.log()


def passed(house):
    """The first of the five numbers that a house has passed, None if none."""
    told = slow.House(house)
    readers = sum(len(cell.readers) for cell in told.cells) + sum(len(zeros) for _, zeros in told.snapshots.values())
    places = sum(len(cell.places) for cell in told.cells) + len(told.zeros)
    rows = ((len(told.processes), 12), (len(told.snapshots), 8), (len(told.groups), 6), (places, 120), (readers, 120))
    return next((most for many, most in rows if many > most), None)


def random_kernel(rng, many, capacity=None):
    """A kernel behind many steps, most of which are done; few frames, so that some wishes are refused."""
    room = capacity or rng.choice((3, 5, 8, 12))
    kernel = Kernel(rng.randint(2, room), room)
    for _ in range(many):
        do_step(kernel, random_step(rng, kernel.house()))
    return kernel


def random_step(rng, house):
    if not house[4] or rng.random() < 0.1:
        return ("begin", rng.randrange(len(house[2])), rng.randint(0, 4), (((0, 1, 2), rng.randint(0, 3)),))
    places = list(places_of(house))
    if places and rng.random() < 0.35:
        return ("write",) + rng.choice(places) + (rng.randint(-9, 9),)
    return samples.random_step(rng, house)


def do_step(kernel, step):
    """What the kernel answers, or the name of the error and its fields."""
    try:
        return kernel.do(step) if is_deed(step) else kernel.wish(step)
    except SwornError as error:
        return (type(error).__name__, tuple(vars(error).values()))


def expected(house, step):
    """The house behind a step and the answer to it, by the words of [36]."""
    told = slow.House(house)
    error = told.error(step)
    if error is not None:
        return house, error
    answer = told.do(step)
    if is_deed(step):
        return told.tuple(), answer
    if passed(told.tuple()) is not None:
        return house, ("TooMany", (passed(told.tuple()),))
    return (told.tuple(), "granted") if is_kept(told.tuple()) else (house, "refused")


class Steps(unittest.TestCase):
    def hold(self, kernel):
        """What always holds."""
        house = kernel.house()
        web = web_of(house)
        self.assertTrue(is_house(house) and is_kept(house))
        self.assertTrue(is_flow(web, kernel.flow()))
        self.assertEqual([len(kernel.flow()), kernel.need()], [flow_many(web), need(house)])
        self.assertLessEqual(live(house), kernel.need())
        self.assertLessEqual(kernel.need(), capacity(house))

    def test_at_first(self):
        kernel = Kernel(2, 0)
        self.assertEqual(state(kernel), (first_house(2, 0), (), None, 0, ()))
        self.assertEqual(state(Kernel(10 ** 39, 10 ** 39))[0], first_house(10 ** 39, 10 ** 39))

    def test_rows_of_steps(self):
        seen = set()
        for seed in range(250):
            rng = random.Random(6000 + seed)
            kernel = random_kernel(rng, 0)
            log, paper = (), None
            for _ in range(25):
                house, flow = kernel.house(), kernel.flow()
                step = random_step(rng, house)
                behind, answer = expected(house, step)
                if is_wish(step) and not isinstance(answer, tuple):
                    paper = (step, answer_to(house, step))
                self.assertEqual(do_step(kernel, step), answer)
                log += ((step, answer),) if isinstance(answer, str) else ()
                self.assertEqual([kernel.house(), kernel.paper(), kernel.log()], [behind, paper, log])
                if behind != house:
                    told = flow_behind(house, flow, step) if is_deed(step) else flow_behind_wish(house, flow, step)
                    self.assertEqual(kernel.flow(), told)
                self.hold(kernel)
                seen.add((step[0], answer if isinstance(answer, str) else answer[0]))
                if kernel.need() > live(house) + len(flow):
                    self.assertEqual(answer, "granted")
        for word in slow.STEPS:
            self.assertTrue((word, "done" if word in slow.DEEDS else "granted") in seen or word == "write", word)
        self.assertTrue({("write", "place"), ("write", "copy"), ("write", "refused"), ("fork", "refused"), ("begin", "refused"), ("frames", "refused"),
                         ("room", "refused"), ("write", "NoPlace"), ("exit", "NoProcess"), ("back", "NoSnapshot"), ("lessen", "NoTicket"),
                         ("fork", "NoGroup")} <= seen)

    def test_a_refused_write_is_one_that_its_forest_does_not_let(self):
        refused = 0
        for seed in range(60):
            rng = random.Random(6500 + seed)
            kernel = random_kernel(rng, 20)
            for place in places_of(kernel.house()):
                told = write_answer(kernel.house(), *place)
                refused += told == "refused"
                forest = [row[3] for row in kernel.house()[4] if row[0] == place[0]][0]
                ahead = kernel.house()
                self.assertEqual(kernel.do(("write",) + place + (1,)), told)
                self.assertFalse(told == "refused" and slow.lets(forest, place[1]))
                self.assertEqual(kernel.house(), behind_deed(ahead, ("write",) + place + (1,))[0])
        self.assertGreater(refused, 20)

    def test_papers(self):
        """[8]: whoever has the house ahead of the last wish can look whether the paper is right."""
        kinds = set()
        for seed in range(150):
            rng = random.Random(6700 + seed)
            kernel = random_kernel(rng, 10)
            for _ in range(10):
                house, step = kernel.house(), random_step(rng, kernel.house())
                ahead = kernel.paper()
                answer = do_step(kernel, step)
                if is_deed(step) or isinstance(answer, tuple):
                    self.assertEqual(kernel.paper(), ahead)
                    continue
                wish, (word, paper) = kernel.paper()
                self.assertEqual([wish, word], [step, answer])
                kinds.add((word, word == "refused" and paper[0] is None))
                self.assertIs(is_grant_paper(house, step, paper), word == "granted")
                self.assertIs(is_refusal_paper(house, step, paper), word == "refused")
        self.assertEqual(kinds, {("granted", False), ("refused", True), ("refused", False)})

    def test_reads(self):
        for seed in range(60):
            kernel = random_kernel(random.Random(7000 + seed), 20)
            ahead = state(kernel)
            for process in range(8):
                for page in range(8):
                    try:
                        told = read(kernel.house(), process, page)
                    except SwornError as error:
                        with self.assertRaises(type(error)) as caught:
                            kernel.read(process, page)
                        self.assertEqual(vars(caught.exception), vars(error))
                    else:
                        self.assertEqual(kernel.read(process, page), told)
            self.assertEqual(state(kernel), ahead)


class Many(unittest.TestCase):
    """TooMany with each of its numbers."""

    def raises(self, kernel, wish, most):
        ahead = state(kernel)
        with self.subTest(wish=wish), self.assertRaises(TooMany) as caught:
            kernel.wish(wish)
        self.assertEqual([vars(caught.exception), state(kernel)], [{"most": most}, ahead])
        with self.assertRaises(Nothing):
            kernel.redo()

    def granted(self, kernel, *wishes):
        for wish in wishes:
            self.assertEqual(kernel.wish(wish), "granted")

    def test_processes(self):
        kernel = Kernel(2, 0)
        self.granted(kernel, *[("begin", 0, 1, ())] * 12)
        for wish in (("begin", 0, 0, ()), ("begin", 0, 5, (((0, 1, 2, 3, 4), 5),)), ("fork", 3, 0, ()), ("begin", 0, 10 ** 39, ())):
            self.assertEqual(is_granted(kernel.house(), ("fork", 3, 0, ())), True)
            self.raises(kernel, wish, 12)
        self.assertEqual(do_step(kernel, ("begin", 1, 0, ())), ("NoGroup", (1,)))
        kernel.do(("exit", 5))
        self.granted(kernel, ("begin", 0, 1, ()))
        self.raises(kernel, ("fork", 12, 0, ()), 12)

    def test_snapshots(self):
        kernel = Kernel(2, 0)
        self.granted(kernel, ("begin", 0, 20, ()), *[("snapshot", 0)] * 6)
        self.raises(kernel, ("snapshot", 0), 120)
        kernel = Kernel(2, 0)
        self.granted(kernel, ("begin", 0, 15, ()), *[("snapshot", 0)] * 8)
        self.raises(kernel, ("snapshot", 0), 8)
        kernel.do(("forget", 7))
        self.granted(kernel, ("begin", 0, 16, ()))
        self.raises(kernel, ("snapshot", 1), 120)
        self.granted(kernel, ("snapshot", 0))
        self.raises(kernel, ("snapshot", 1), 8)

    def test_groups(self):
        kernel = Kernel(2, 0)
        self.granted(kernel, *[("group", group, None) for group in range(5)])
        self.raises(kernel, ("group", 0, None), 6)
        self.raises(kernel, ("group", 5, 0), 6)
        self.assertEqual(do_step(kernel, ("group", 6, None)), ("NoGroup", (6,)))

    def test_places(self):
        kernel = Kernel(2, 0)
        self.raises(kernel, ("begin", 0, 121, ()), 120)
        self.raises(kernel, ("begin", 0, 10 ** 39, (((0, 1, 2), 3),)), 120)
        self.granted(kernel, ("begin", 0, 60, ()), ("fork", 0, 0, ()))
        for wish in (("more", 0, 1), ("more", 1, 10 ** 39), ("send", 0, 0, 1), ("send", 0, 0, 0), ("common", (0,), 1), ("common", (0, 1), 10 ** 30),
                     ("begin", 0, 1, ()), ("fork", 0, 0, ()), ("common", (0, 1), 9)):
            self.raises(kernel, wish, 120)
        self.granted(kernel, ("begin", 0, 0, ()))
        kernel.do(("drop", 1, 5))
        self.raises(kernel, ("common", (0, 1), 1), 120)
        self.raises(kernel, ("common", (0,), 2), 120)
        self.raises(kernel, ("more", 2, 2), 120)
        self.granted(kernel, ("send", 0, 59, 2))
        self.raises(kernel, ("send", 0, 59, 2), 120)
        kernel.do(("drop", 2, 0))
        self.granted(kernel, ("common", (2,), 1))
        self.raises(kernel, ("more", 2, 1), 120)

    def test_places_of_back(self):
        kernel = Kernel(9, 9)
        self.granted(kernel, ("begin", 0, 50, ()), ("snapshot", 0), ("begin", 0, 30, ()), ("begin", 0, 40, ()))
        self.assertEqual(len(places_of(kernel.house())), 120)
        self.raises(kernel, ("back", 0, 1), 120)
        self.raises(kernel, ("back", 0, 2), 120)
        self.granted(kernel, ("back", 0, 0))
        for page in range(20):
            kernel.do(("drop", 0, page))
        self.granted(kernel, ("back", 0, 0))
        self.assertEqual(len(places_of(kernel.house())), 120)
        for page in range(19):
            kernel.do(("drop", 2, page))
        self.raises(kernel, ("back", 0, 1), 120)
        kernel.do(("drop", 2, 19))
        self.granted(kernel, ("back", 0, 1))
        self.assertEqual(len(places_of(kernel.house())), 120)

    def test_readers(self):
        kernel = Kernel(60, 60)
        self.granted(kernel, ("begin", 0, 40, ((tuple(range(20)), 20),)))
        for page in range(20):
            kernel.do(("write", 0, page, page))
        self.granted(kernel, ("snapshot", 0), ("snapshot", 0), ("snapshot", 0), ("begin", 0, 1, ()), ("begin", 0, 0, ()))
        self.assertEqual(len(readers_of(kernel.house())), 120)
        self.raises(kernel, ("snapshot", 1), 120)
        self.granted(kernel, ("snapshot", 2))
        self.assertEqual(do_step(kernel, ("snapshot", 3)), ("NoProcess", (3,)))
        kernel.do(("forget", 0))
        self.granted(kernel, ("snapshot", 1))
        self.raises(kernel, ("snapshot", 0), 120)

    def test_refused_or_not(self):
        """It is raised for what would be granted, and for what would be refused."""
        kernel = Kernel(2, 0)
        self.granted(kernel, ("begin", 0, 100, ((tuple(range(40)), 2),)))
        for forest, truth in (((), True), ((((0, 1), 1),), False)):
            wish = ("begin", 0, 21, forest)
            self.assertIs(is_granted(kernel.house(), wish), truth)
            self.raises(kernel, wish, 120)
        self.assertEqual(do_step(kernel, ("begin", 0, 20, (((0, 1), 1),))), "refused")
        self.assertEqual(do_step(kernel, ("more", 7, 10 ** 30)), ("NoProcess", (7,)))
        self.assertEqual(do_step(kernel, ("begin", 3, 10 ** 30, ())), ("NoGroup", (3,)))

    def test_against_the_house_behind(self):
        """Houses near their numbers, for wishes of all sorts."""
        told = set()
        for seed in range(120):
            rng = random.Random(7200 + seed)
            kernel = Kernel(NINE, NINE)
            numbers = [rng.choice((0, 4, 8, 30)) for _ in range(rng.randint(3, 12))]
            for many in numbers:
                do_step(kernel, ("begin", 0, many, ()))
            for _ in range(rng.randint(0, 20)):
                do_step(kernel, rng.choice([("snapshot", rng.randrange(12)), ("snapshot", 0), ("group", 0, None)]))
            for _ in range(15):
                step = samples.random_step(rng, kernel.house(), 30) if rng.random() < 0.8 else ("snapshot", rng.randrange(3))
                if not is_wish(step):
                    continue
                behind, answer = expected(kernel.house(), step)
                self.assertEqual(do_step(kernel, step), answer)
                self.assertEqual(kernel.house(), behind)
                told.add((step[0], answer) if isinstance(answer, tuple) and answer[0] == "TooMany" else None)
        for kind in (("begin", 12), ("fork", 12), ("begin", 120), ("fork", 120), ("snapshot", 8), ("snapshot", 120), ("group", 6), ("common", 120),
                     ("send", 120), ("more", 120)):
            self.assertIn((kind[0], ("TooMany", (kind[1],))), told)


class BackAndOn(unittest.TestCase):
    def test_to_both_ends(self):
        for seed in range(80):
            rng = random.Random(7500 + seed)
            kernel = random_kernel(rng, 0)
            states = [state(kernel)]
            for _ in range(20):
                answer = do_step(kernel, random_step(rng, kernel.house()))
                if isinstance(answer, str):
                    states.append(state(kernel))
                else:
                    self.assertEqual(state(kernel), states[-1])
            self.assertRaises(Nothing, kernel.redo)
            for ahead in states[-2::-1]:
                self.assertIsNone(kernel.undo())
                self.assertEqual(state(kernel), ahead)
            self.assertRaises(Nothing, kernel.undo)
            self.assertEqual(state(kernel), states[0])
            for behind in states[1:]:
                self.assertIsNone(kernel.redo())
                self.assertEqual(state(kernel), behind)
            self.assertRaises(Nothing, kernel.redo)
            at = len(states) - 1
            for _ in range(30):
                if rng.random() < 0.5 and at > 0:
                    kernel.undo()
                    at -= 1
                elif at < len(states) - 1:
                    kernel.redo()
                    at += 1
                self.assertEqual(state(kernel), states[at])

    def test_steps_behind_what_was_taken_back(self):
        """Steps, undo and redo as they come, against a list of all states."""
        for seed in range(80):
            rng = random.Random(7600 + seed)
            kernel = random_kernel(rng, 0)
            states, at = [state(kernel)], 0
            for _ in range(40):
                word = rng.choice(("undo", "redo", "step"))
                if word == "step":
                    step = random_step(rng, kernel.house())
                    behind, answer = expected(kernel.house(), step)
                    self.assertEqual([do_step(kernel, step), kernel.house()], [answer, behind])
                    if isinstance(answer, str):
                        states, at = states[:at + 1] + [state(kernel)], at + 1
                        self.assertEqual(kernel.log(), states[at - 1][4] + ((step, answer),))
                elif (at == 0) if word == "undo" else (at == len(states) - 1):
                    self.assertRaises(Nothing, getattr(kernel, word))
                else:
                    getattr(kernel, word)()
                    at += 1 if word == "redo" else -1
                self.assertEqual(state(kernel), states[at])

    def test_nothing_is_done_once_more_behind_another_step(self):
        begin = ("begin", 0, 2, (((0, 1), 1),))
        for step, is_done in ((("write", 0, 0, 3), True), (("write", 0, 1, 0), True), (("slots", 1), True), (("begin", 0, 9, (((0, 1, 2), 9),)), True),
                              (("drop", 5, 0), False), (("fork", 9, 0, ()), False), (("begin", 0, 121, ()), False)):
            kernel = Kernel(2, 0)
            for wish in (begin, ("group", 0, None), ("group", 0, None)):
                kernel.wish(wish)
            kernel.undo()
            kernel.undo()
            kernel.read(0, 0)
            with self.assertRaises(NoPlace):
                kernel.read(0, 7)
            with self.assertRaises(Wrong):
                kernel.do(begin)
            self.assertEqual(isinstance(do_step(kernel, step), str), is_done, step)
            if is_done:
                ahead = state(kernel)
                self.assertRaises(Nothing, kernel.redo)
                self.assertEqual([state(kernel), len(kernel.log())], [ahead, 2])
            else:
                kernel.redo()
                kernel.redo()
                self.assertEqual(len(kernel.log()), 3)

    def test_refused_ones_count(self):
        kernel = Kernel(2, 0)
        wish = ("begin", 0, 3, (((0, 1, 2), 3),))
        self.assertEqual([kernel.wish(wish), kernel.log(), kernel.house()], ["refused", ((wish, "refused"),), first_house(2, 0)])
        paper = kernel.paper()
        self.assertEqual([paper[0], paper[1]], [wish, answer_to(first_house(2, 0), wish)])
        self.assertEqual([kernel.undo(), kernel.paper(), kernel.log()], [None, None, ()])
        self.assertEqual([kernel.redo(), kernel.paper(), len(kernel.log())], [None, paper, 1])

    def test_nothing(self):
        kernel = Kernel(2, 0)
        for method in (kernel.undo, kernel.redo):
            with self.assertRaises(Nothing) as caught:
                method()
            self.assertEqual([vars(caught.exception), state(kernel)], [{}, state(Kernel(2, 0))])


class Twins(unittest.TestCase):
    def test_an_independent_kernel_in_the_same_state(self):
        for seed in range(60):
            rng = random.Random(7700 + seed)
            kernel = random_kernel(rng, 15)
            for _ in range(rng.randint(0, min(4, len(kernel.log())))):
                kernel.undo()
            twin, ahead = kernel.twin(), state(kernel)
            self.assertIsInstance(twin, Kernel)
            self.assertTrue(twin == kernel and not twin != kernel and twin is not kernel)
            self.assertEqual(state(twin), ahead)
            steps = []
            for other in (twin, kernel.twin()):
                try:
                    other.redo()
                    steps.append(state(other))
                except Nothing:
                    steps.append(None)
            self.assertEqual(steps[0], steps[1])
            for _ in range(6):
                do_step(twin, random_step(rng, twin.house()))
            while twin.log():
                twin.undo()
            self.assertEqual(state(kernel), ahead)
            self.assertEqual(twin.house(), first_house(*kernel.house()[:2]) if not any(
                step[0] in ("frames", "slots") for step, _ in kernel.log()) else twin.house())
            while kernel.log():
                kernel.undo()
            self.assertEqual(state(kernel), state(twin))

    def test_equal_exactly_if_their_houses_are(self):
        one, other = Kernel(3, 1), Kernel(3, 0)
        self.assertIs(one == other, False)
        self.assertIs(one != other, True)
        self.assertEqual(other.wish(("slots", 1)), "granted")
        self.assertIs(one == other, True)
        self.assertIs(one != other, False)
        self.assertNotEqual([one.log(), one.paper()], [other.log(), other.paper()])
        other.undo()
        self.assertIs(one == other, False)
        for thing in samples.odd_values() + [one.house(), one.log(), [one], object()]:
            self.assertIs(one == thing, False)
            self.assertIs(one != thing, True)
            self.assertIs(thing == one, False)


class WrongValues(unittest.TestCase):
    KERNEL = random_kernel(random.Random(12), 25, 9)

    def raises(self, place, function, *arguments):
        ahead = state(self.KERNEL)
        with self.assertRaises(Wrong) as caught:
            function(*arguments)
        self.assertEqual([vars(caught.exception), state(self.KERNEL)], [{"place": place}, ahead])

    def test_frames_and_slots(self):
        for value in samples.odd_values():
            integer = slow.integer(value, 0)
            if not integer or value < 2:
                self.raises(0, Kernel, value, 0)
                self.raises(0, Kernel, value, value)
                self.raises(0, Kernel, value, None)
            if not integer:
                self.raises(1, Kernel, 2, value)
            else:
                self.assertEqual(Kernel(2, value).house(), first_house(2, value))

    def test_deeds_and_wishes(self):
        kernel = self.KERNEL
        good = [("write", 0, 1, -4), ("drop", 0, 0), ("exit", 0), ("lessen", 0, (0, 1), 2), ("forget", 0), ("begin", 0, 1, (((0,), 1),)),
                ("more", 0, 1), ("raise", 0, (((0, 1), 1),)), ("fork", 0, 0, ()), ("common", (0, 1), 1), ("send", 0, 1, 0), ("snapshot", 0),
                ("back", 0, 0), ("group", 0, 1), ("move", 0, 0), ("room", 1, None), ("frames", 2), ("slots", 0), ("read", 0, 0)]
        values = samples.odd_values() + good
        for step in good[:18]:
            values += samples.changed(step)
        tried = [0, 0]
        for value in values + [kernel, [kernel], ("exit", kernel), Kernel]:
            if not slow.deed(value):
                tried[0] += 1
                self.raises(0, kernel.do, value)
            if not slow.wish(value):
                tried[1] += 1
                self.raises(0, kernel.wish, value)
        self.assertTrue(min(tried) > 3000)

    def test_reads(self):
        for value in samples.odd_values() + [self.KERNEL]:
            if not slow.integer(value, 0):
                self.raises(0, self.KERNEL.read, value, 0)
                self.raises(0, self.KERNEL.read, value, value)
                self.raises(1, self.KERNEL.read, 0, value)
                self.raises(1, self.KERNEL.read, 10 ** 39, value)

    def test_wrong_ahead_of_any_other_error(self):
        self.raises(0, self.KERNEL.do, ("write", 99, 99, True))
        self.raises(0, self.KERNEL.wish, ("begin", 99, 10 ** 39, [((0,), 1)]))
        with self.assertRaises(NoProcess):
            self.KERNEL.read(10 ** 39, 10 ** 39)


class GreatKernels(unittest.TestCase):
    def test_each_call_ends_within_moments(self):
        """120 places, twelve processes of ten tickets each, in six groups with rooms."""
        rng = random.Random(200)
        for room in (70, 400):
            kernel = Kernel(room, room)
            for group in range(5):
                kernel.wish(("group", rng.randrange(group + 1), rng.choice((None, 30, 60))))
            for process in range(12):
                forest = samples.ten_tickets(rng, range(10), 3)
                with samples.moments(self):
                    answer = kernel.wish(("begin" if process < 3 else "fork",) + ((process % 6, 10) if process < 3 else (process % 3, process % 6)) + (forest,))
                    if answer == "refused":
                        kernel.wish(("begin", 0, 10, ()))
            for step in (("snapshot", 0), ("snapshot", 1)):
                do_step(kernel, step)
            for _ in range(60):
                house = kernel.house()
                places = list(places_of(house))
                step = ("write",) + rng.choice(places) + (5,) if rng.random() < 0.7 else random_step(rng, house)
                if step[0] != "exit":
                    with samples.moments(self):
                        do_step(kernel, step)
                        kernel.paper()
                self.assertEqual(kernel.need(), need(kernel.house()))
            self.assertTrue(is_flow(web_of(kernel.house()), kernel.flow()))
            self.assertGreater(len(places), 60)
            with samples.moments(self):
                while kernel.log():
                    kernel.undo()
                while True:
                    try:
                        kernel.redo()
                    except Nothing:
                        break

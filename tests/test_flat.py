"""[13] and [14], with the guarantee [5]: flat memories."""

import random
import unittest

import samples
import slow
from pagesworn.deeds import behind_deed, read
from pagesworn.errors import NoPlace, NoProcess, NoSnapshot, SwornError
from pagesworn.flat import first_flat, flat_behind, flat_behind_row, flat_of, flat_read, is_flat, same_shown
from pagesworn.forms import is_deed, is_wish, places_of
from pagesworn.wishes import behind_wish, first_house

PROCESSES = (
    (0, 3, ((0, ("own", 5)), (1, ("box", 0)), (2, ("own", -4)))),
    (2, 4, ((0, ("box", 1)), (2, ("box", 0)), (3, ("box", 2)))),
    (3, 0, ()),
)
SNAPSHOTS = ((1, 3, ((0, 7), (2, 0))), (2, 0, ()))
FLAT = ((5, 3), PROCESSES, SNAPSHOTS, (8, 0, -9))

DEEDS = (("write", 0, 0, 1), ("drop", 0, 0), ("exit", 0), ("lessen", 0, (7,), 1), ("forget", 1))
WISHES = (
    ("begin", 4, 1, ()), ("more", 0, 1), ("raise", 0, ()), ("fork", 0, 9, ()), ("common", (0, 2), 1), ("send", 0, 0, 2),
    ("snapshot", 0), ("back", 1, 0), ("group", 7, None), ("move", 0, 9), ("room", 8, 1), ("frames", 2), ("slots", 0),
)


def behind_any(house, step):
    """The house behind a deed or a wish, and whether it was done."""
    if is_deed(step):
        behind, answer = behind_deed(house, step)
        return behind, answer != "refused"
    return behind_wish(house, step), True


class IsFlat(unittest.TestCase):
    def holds(self, things):
        answers = []
        for thing in things:
            answer = is_flat(thing)
            answers.append(answer)
            if answer is not slow.flat(thing):
                self.fail(f"is_flat of {thing!r} is {answer!r}")
        return answers

    def test_flats(self):
        self.assertEqual(self.holds([FLAT, first_flat(), ((0, 0), (), (), ())]), [True] * 3)
        self.assertEqual(first_flat(), ((0, 0), (), (), ()))

    def test_odd_values(self):
        self.assertNotIn(True, self.holds(samples.odd_values()))

    def test_changed_flats(self):
        answers = self.holds(samples.changed(FLAT))
        self.assertGreater(answers.count(True), 30)
        self.assertGreater(answers.count(False), 2000)

    def test_flats_that_are_none(self):
        other = {
            "a box more": FLAT[:3] + ((8, 0, -9, 1),), "a box fewer": FLAT[:3] + ((8, 0),), "no boxes": FLAT[:3] + ((),),
            "boxes as a list": FLAT[:3] + ([8, 0, -9],), "a box that is no content": FLAT[:3] + ((8, True, -9),),
            "boxes out of order": (FLAT[0], ((0, 3, ((0, ("box", 1)), (1, ("box", 0)))),), (), (4, 5)),
            "an index beyond": (FLAT[0], ((0, 3, ((0, ("box", 0)), (1, ("box", 2)))),), (), (4, 5)),
            "an index below 0": (FLAT[0], ((0, 3, ((0, ("box", -1)),)),), (), (4,)),
            "an index that is a truth": (FLAT[0], ((0, 3, ((0, ("box", False)),)),), (), (4,)),
            "a page twice": (FLAT[0], ((0, 3, ((0, ("own", 1)), (0, ("own", 2)))),), (), ()),
            "pages out of order": (FLAT[0], ((0, 3, ((1, ("own", 1)), (0, ("own", 2)))),), (), ()),
            "a page beyond many": (FLAT[0], ((0, 3, ((3, ("own", 1)),)),), (), ()),
            "a number twice": (FLAT[0], ((0, 3, ()), (0, 4, ())), (), ()), "a number beyond born": ((3, 3),) + FLAT[1:],
            "a snapshot beyond born": ((5, 2),) + FLAT[1:], "a snapshot twice": FLAT[:2] + (((1, 3, ()), (1, 4, ())),) + FLAT[3:],
            "a snapshot's page beyond many": FLAT[:2] + (((1, 3, ((3, 0),)),),) + FLAT[3:],
            "a snapshot's page twice": FLAT[:2] + (((1, 3, ((1, 0), (1, 2))),),) + FLAT[3:],
            "a snapshot with a box": FLAT[:2] + (((1, 3, ((1, ("own", 0)),)),),) + FLAT[3:],
            "True for 1": ((True, 3), (), (), ()), "a list": list(FLAT), "three parts": FLAT[:3], "five parts": FLAT + ((),),
        }
        for name, thing in other.items():
            with self.subTest(name=name):
                self.assertEqual(self.holds([thing]), [False])

    def test_exchanged_boxes(self):
        turned = FLAT[:1] + (PROCESSES[:1] + ((2, 4, ((0, ("box", 2)), (2, ("box", 0)), (3, ("box", 1)))),),) + FLAT[2:]
        self.assertEqual(self.holds([turned]), [False])

    def test_random_flats(self):
        rng = random.Random(13)
        for _ in range(80):
            flat = flat_of(samples.random_house(rng))
            self.assertIs(is_flat(flat), True)
            changed = samples.changed(flat)
            self.holds(rng.sample(changed, min(len(changed), 80)))


class FlatOf(unittest.TestCase):
    def test_all_sorts(self):
        cells = ((3, "common", ((1, 0),), ()), (5, "own", ((0, 0), (1, 1)), ((0, 0),)), (6, "own", (), ((2, 3),)),
                 (8, "common", ((0, 1), (1, 2)), ()))
        rows = ((0, 1, 4, (((0,), 1),)), (1, 0, 3, ()))
        house = (4, 2, ((None, None), (0, 7)), (2, 3), rows, ((0, 2, (1,)), (2, 4, ())), cells, ((0, 3),))
        self.assertEqual(flat_of(house), (
            (2, 3),
            ((0, 4, ((0, ("own", 5)), (1, ("box", 0)), (3, ("own", 0)))),
             (1, 3, ((0, ("box", 1)), (1, ("own", 5)), (2, ("box", 0))))),
            ((0, 2, ((0, 5), (1, 0))), (2, 4, ((3, 6),))), (8, 3)))
        self.assertIs(same_shown(house, flat_of(house)), True)
        self.assertEqual(flat_of(first_house(2, 0)), first_flat())

    def test_what_is_not_shown_makes_no_difference(self):
        house = (4, 2, ((None, None),), (1, 0), ((0, 0, 2, ()),), (), ((5, "own", ((0, 0),), ()),), ((0, 1),))
        other = (9, 0, ((None, None), (0, 1)), (1, 0), ((0, 1, 2, (((0,), 1),)),), (), house[6], house[7])
        self.assertEqual(flat_of(house), flat_of(other))
        self.assertIs(same_shown(other, flat_of(house)), True)
        for changed in (house[:3] + ((2, 0),) + house[4:], house[:7] + ((),), house[:4] + (((0, 0, 3, ()),),) + house[5:],
                        house[:6] + (((6, "own", ((0, 0),), ()),), house[7]),
                        house[:6] + (((5, "common", ((0, 0),), ()),), house[7])):
            self.assertIs(same_shown(changed, flat_of(house)), False)

    def test_random_and_great_houses(self):
        rng = random.Random(14)
        for house in [samples.random_house(rng) for _ in range(300)] + [samples.great_house(rng)]:
            flat = flat_of(house)
            self.assertTrue(is_flat(flat) and slow.flat(flat))
            self.assertIs(same_shown(house, flat), True)
            for process, page in places_of(house):
                self.assertEqual(flat_read(flat, process, page), read(house, process, page))

    def test_flat_read(self):
        self.assertEqual([flat_read(FLAT, *place) for place in ((0, 0), (0, 1), (0, 2), (2, 0), (2, 2), (2, 3))],
                         [5, 8, -4, 0, 8, -9])
        for process in (1, 4, 5, 10 ** 30):
            with self.assertRaises(NoProcess) as caught:
                flat_read(FLAT, process, 99)
            self.assertEqual(caught.exception.process, process)
        for place in ((0, 3), (2, 1), (2, 4), (3, 0)):
            with self.assertRaises(NoPlace) as caught:
                flat_read(FLAT, *place)
            self.assertEqual((caught.exception.process, caught.exception.page), place)


class FlatBehind(unittest.TestCase):
    def behind(self, *step):
        found = flat_behind(FLAT, step, True)
        self.assertTrue(is_flat(found))
        return found

    def test_write_and_drop(self):
        self.assertEqual(self.behind("write", 0, 0, 9)[1][0][2][0], (0, ("own", 9)))
        self.assertEqual(self.behind("write", 0, 1, 9), FLAT[:3] + ((9, 0, -9),))
        self.assertEqual(self.behind("drop", 0, 0)[1][0], (0, 3, PROCESSES[0][2][1:]))
        self.assertEqual(self.behind("drop", 2, 0)[1:], (
            (PROCESSES[0], (2, 4, ((2, ("box", 0)), (3, ("box", 1)))), PROCESSES[2]), SNAPSHOTS, (8, -9)))

    def test_boxes_change_their_order(self):
        found = self.behind("drop", 0, 1)
        self.assertEqual(found[3], (0, 8, -9))
        self.assertEqual(found[1][1], (2, 4, ((0, ("box", 0)), (2, ("box", 1)), (3, ("box", 2)))))
        sent = self.behind("send", 2, 3, 0)
        self.assertEqual(sent[1][0], (0, 4, PROCESSES[0][2] + ((3, ("box", 1)),)))
        self.assertEqual([sent[3], sent[1][1][2]], [(8, -9, 0), ((0, ("box", 2)), (2, ("box", 0)), (3, ("box", 1)))])

    def test_exit_and_forget(self):
        self.assertEqual(self.behind("exit", 0)[3], (0, 8, -9))
        self.assertEqual(self.behind("exit", 2)[1:], ((PROCESSES[0], PROCESSES[2]), SNAPSHOTS, (8,)))
        self.assertEqual(self.behind("forget", 1), FLAT[:2] + (SNAPSHOTS[1:],) + FLAT[3:])

    def test_begin_and_more(self):
        self.assertEqual(self.behind("begin", 9, 2, ()), (
            (6, 3), PROCESSES + ((5, 2, ((0, ("own", 0)), (1, ("own", 0)))),)) + FLAT[2:])
        self.assertEqual(self.behind("begin", 9, 0, ())[1][3], (5, 0, ()))
        self.assertEqual(self.behind("more", 3, 2)[1][2], (3, 2, ((0, ("own", 0)), (1, ("own", 0)))))
        self.assertEqual(self.behind("more", 2, 1)[1][1], (2, 5, PROCESSES[1][2] + ((4, ("own", 0)),)))

    def test_fork_and_common(self):
        self.assertEqual(self.behind("fork", 2, 9, ()), ((6, 3), PROCESSES + ((5, 4, PROCESSES[1][2]),)) + FLAT[2:])
        found = self.behind("common", (0, 3), 2)
        self.assertEqual(found[1][0], (0, 5, PROCESSES[0][2] + ((3, ("box", 1)), (4, ("box", 2)))))
        self.assertEqual(found[1][2], (3, 2, ((0, ("box", 1)), (1, ("box", 2)))))
        self.assertEqual(found[3], (8, 0, 0, 0, -9))

    def test_send(self):
        self.assertEqual(self.behind("send", 0, 2, 3)[1][2], (3, 1, ((0, ("own", -4)),)))
        self.assertEqual(self.behind("send", 0, 1, 0)[1][0], (0, 4, PROCESSES[0][2] + ((3, ("box", 0)),)))

    def test_snapshot_and_back(self):
        self.assertEqual(self.behind("snapshot", 2), ((5, 4), PROCESSES, SNAPSHOTS + ((3, 4, ((0, 0), (2, 8), (3, -9))),), FLAT[3]))
        found = self.behind("back", 1, 3)
        self.assertEqual(found, FLAT[:1] + (PROCESSES[:2] + ((3, 3, ((0, ("own", 7)), (2, ("own", 0)))),),) + FLAT[2:])
        found = self.behind("back", 1, 2)
        self.assertEqual([found[1][1], found[3]], [(2, 4, ((0, ("own", 7)), (2, ("own", 0)))), (8,)])
        self.assertEqual(self.behind("back", 2, 0)[1][0], (0, 3, ()))

    def test_steps_that_change_nothing(self):
        for step in (("lessen", 0, (9,), 4), ("raise", 0, (((0,), 1),)), ("group", 8, None), ("move", 2, 8), ("room", 8, 1),
                     ("frames", 7), ("slots", 3)):
            self.assertEqual(flat_behind(FLAT, step, True), FLAT)

    def test_all_steps_not_done(self):
        for step in DEEDS + WISHES:
            self.assertTrue(is_deed(step) or is_wish(step))
            self.assertEqual(flat_behind(FLAT, step, False), FLAT)
        self.assertEqual({step[0] for step in DEEDS + WISHES}, set(slow.STEPS))

    def raises(self, step, error, *fields):
        for is_done in (True, False):
            with self.subTest(step=step, is_done=is_done), self.assertRaises(error) as caught:
                flat_behind(FLAT, step, is_done)
            self.assertEqual(tuple(vars(caught.exception).values()), fields)

    def test_errors(self):
        for step in DEEDS + WISHES:
            if step[0] in ("begin", "group", "room", "frames", "slots", "forget", "common", "back"):
                continue
            self.raises(step[:1] + (1,) + step[2:], NoProcess, 1)
        self.raises(("common", (0, 1, 4), 1), NoProcess, 1)
        self.raises(("common", (4, 7), 1), NoProcess, 4)
        self.raises(("send", 0, 0, 4), NoProcess, 4)
        for word in ("write", "drop", "send"):
            tail = {"write": (1,), "send": (0,)}.get(word, ())
            self.raises((word, 2, 1) + tail, NoPlace, 2, 1)
            self.raises((word, 0, 3) + tail, NoPlace, 0, 3)
        self.raises(("forget", 0), NoSnapshot, 0)
        self.raises(("back", 0, 0), NoSnapshot, 0)
        self.raises(("back", 1, 1), NoProcess, 1)

    def test_which_error_comes_first(self):
        self.raises(("back", 9, 8), NoProcess, 8)
        self.raises(("send", 9, 9, 8), NoProcess, 9)
        self.raises(("send", 0, 9, 8), NoProcess, 8)
        self.raises(("send", 0, 9, 2), NoPlace, 0, 9)
        self.raises(("write", 1, 9, 0), NoProcess, 1)

    def test_rows(self):
        steps = ((("drop", 0, 1), True), (("write", 2, 2, 3), True), (("exit", 2), False), (("fork", 2, 0, ()), True))
        self.assertEqual(flat_behind_row(FLAT, ()), FLAT)
        found = FLAT
        for step, is_done in steps:
            found = flat_behind(found, step, is_done)
        self.assertEqual(flat_behind_row(FLAT, steps), found)
        self.assertEqual([flat_read(found, 5, 2), flat_read(found, 2, 2), len(found[1])], [3, 3, 4])
        with self.assertRaises(NoPlace):
            flat_behind_row(FLAT, steps + ((("drop", 0, 1), False),))


class Flatness(unittest.TestCase):
    def test_houses_show_what_flat_memories_show(self):
        """[5], for rows of steps from all sorts of houses, and from great ones."""
        rng = random.Random(5)
        houses = [first_house(3, 2)] * 60 + [samples.random_house(rng) for _ in range(150)] + [samples.great_house(rng)]
        for house in houses:
            flat, steps, start = flat_of(house), [], flat_of(house)
            for _ in range(30):
                step = samples.random_step(rng, house)
                try:
                    behind, is_done = behind_any(house, step)
                except SwornError as error:
                    self.same_error(flat, step, error)
                    continue
                steps.append((step, is_done))
                flat = flat_behind(flat, step, is_done)
                self.assertIs(same_shown(behind, flat), True)
                house = behind if len(places_of(behind)) < 150 else house
                flat = flat_of(house)
                if house is not behind:
                    steps.pop()
            self.assertEqual(flat_behind_row(start, tuple(steps)), flat_of(house))

    def same_error(self, flat, step, error):
        """What a house does not have of processes, places and snapshots a flat memory does not have either."""
        name = type(error).__name__
        if name in ("NoGroup", "NoTicket"):
            return
        with self.assertRaises(type(error)) as caught:
            flat_behind(flat, step, True)
        self.assertEqual(vars(caught.exception), vars(error))

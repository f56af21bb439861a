"""[35], with the guarantees [5], [6] and [8]: runs."""

import random
import unittest

import samples
import slow
from pagesworn.errors import SwornError
from pagesworn.flat import flat_behind, flat_of, flat_read, is_flat, same_shown
from pagesworn.forms import is_deed, is_house, is_wish, places_of
from pagesworn.inside import group_needs, is_kept
from pagesworn.need import capacity, live, need
from pagesworn.runs import agrees, behind_step, first_unlike, levels, run, run_flat
from pagesworn.wishes import first_house

ERRORS = {"NoProcess", "NoPlace", "NoGroup", "NoSnapshot", "NoTicket"}


def kept_house(rng, house):
    """The house with capacity and rooms of which it needs all but a few."""
    rooms = [None] + [rng.choice([None, number, number + 2]) for number in group_needs(house)[1:]]
    return (max(2, need(house)), rng.choice((0, 1, 3)), tuple(zip([row[0] for row in house[2]], rooms))) + house[3:]


def random_script(rng, house, many):
    """Steps of all sorts, most of which name what is there when it is their turn."""
    script = []
    for _ in range(many):
        places = list(places_of(house))
        if rng.random() < 0.3:
            step = ("read",) + (rng.choice(places) if places and rng.random() < 0.85 else (rng.randint(0, 9), rng.randint(0, 9)))
        else:
            step = samples.random_step(rng, house)
        if step[0] in ("fork", "begin", "more", "common", "send") and len(places) > 40:
            step = ("exit", step[1] if step[0] != "common" else step[1][0])
        script.append(step)
        house = slow_step(house, step)[0]
    return tuple(script)


def slow_step(house, step):
    """The house behind a step, and its answer, by the words of [35]."""
    told = slow.House(house)
    error = told.error(("drop",) + step[1:] if step[0] == "read" else step)
    if error is not None:
        return house, error[0]
    if step[0] == "read":
        cell = told.cell(step[1:])
        return house, cell.content if cell else 0
    answer = told.do(step)
    if step[0] in slow.DEEDS:
        return told.tuple(), answer
    return (told.tuple(), "granted") if is_kept(told.tuple()) else (house, "refused")


def cases(seed, many, steps=14):
    """Kept houses, each with a script."""
    rng = random.Random(seed)
    for _ in range(many):
        house = kept_house(rng, samples.any_house(rng))
        yield rng, house, random_script(rng, house, rng.randint(0, steps))


class Runs(unittest.TestCase):
    def test_steps_one_by_one(self):
        seen = set()
        for _, house, script in cases(190, 300):
            answers, houses = run(house, script)
            self.assertEqual([len(answers), len(houses), houses[0]], [len(script), len(script) + 1, house])
            for step, answer, ahead, behind in zip(script, answers, houses, houses[1:]):
                self.assertEqual((behind, answer), slow_step(ahead, step))
                self.assertEqual(behind_step(ahead, step), (behind, answer))
                self.assertTrue(is_kept(behind) and is_house(behind))
                seen.add((step[0] if step[0] in ("read", "write") else is_deed(step), answer if isinstance(answer, str) else "content"))
        self.assertTrue({("write", "place"), ("write", "copy"), ("write", "refused"), (True, "done"), (False, "granted"), (False, "refused"),
                         ("read", "content")} <= seen)
        for kind in ("write", "read", True, False):
            self.assertIn((kind, "NoProcess"), seen)
        self.assertTrue({("write", "NoPlace"), ("read", "NoPlace"), (True, "NoPlace"), (True, "NoSnapshot"), (True, "NoTicket"), (False, "NoGroup"),
                         (False, "NoSnapshot"), (False, "NoPlace")} <= seen)

    def test_each_error_by_its_name(self):
        house = slow.behind(first_house(4, 4), [("begin", 0, 2, (((0, 1), 2),)), ("begin", 0, 1, ()), ("drop", 0, 1), ("snapshot", 0)])
        told = {("read", 2, 0): "NoProcess", ("read", 0, 1): "NoPlace", ("read", 0, 2): "NoPlace", ("write", 2, 0, 1): "NoProcess",
                ("write", 0, 1, 1): "NoPlace", ("drop", 0, 1): "NoPlace", ("exit", 5): "NoProcess", ("lessen", 0, (0,), 0): "NoTicket",
                ("lessen", 0, (0, 1), 3): "NoTicket", ("forget", 1): "NoSnapshot", ("begin", 1, 0, ()): "NoGroup", ("more", 2, 1): "NoProcess",
                ("raise", 2, ()): "NoProcess", ("fork", 2, 9, ()): "NoProcess", ("fork", 0, 9, ()): "NoGroup", ("common", (0, 1, 2), 1): "NoProcess",
                ("send", 0, 1, 1): "NoPlace", ("send", 0, 1, 2): "NoProcess", ("snapshot", 2): "NoProcess", ("back", 1, 0): "NoSnapshot",
                ("back", 1, 2): "NoProcess", ("group", 1, None): "NoGroup", ("move", 0, 1): "NoGroup", ("room", 1, 3): "NoGroup",
                ("read", 1, 0): 0, ("drop", 0, 0): "done", ("group", 0, None): "granted", ("frames", 2): "granted", ("slots", 0): "granted"}
        self.assertTrue(ERRORS <= set(told.values()))
        for step, answer in told.items():
            behind, found = behind_step(house, step)
            self.assertEqual(found, answer, step)
            if answer in ERRORS or step[0] == "read":
                self.assertEqual(behind, house)

    def test_no_steps(self):
        house = first_house(2, 1)
        self.assertEqual([run(house, ()), levels(house, ()), agrees(house, ())], [((), (house,)), ((0, 0, 3),), True])
        flat = flat_of(house)
        self.assertEqual([run_flat(flat, (), ()), first_unlike(flat, (), ())], [((), (flat,)), None])

    def test_levels(self):
        """[6]: cells are at most need, need at most capacity, and greater only behind a wish."""
        greater = 0
        for _, house, script in cases(191, 200):
            told = levels(house, script)
            self.assertEqual(told, tuple((live(behind), need(behind), capacity(behind)) for behind in run(house, script)[1]))
            for step, ahead, behind in zip(script, told, told[1:]):
                self.assertTrue(behind[0] <= behind[1] <= behind[2])
                if behind[1] > ahead[1]:
                    greater += 1
                    self.assertTrue(is_wish(step))
        self.assertGreater(greater, 50)


class FlatRuns(unittest.TestCase):
    def told(self, flat, script, answers):
        """run_flat by the words of [35]."""
        told, flats = [], [flat]
        for step, answer in zip(script, answers):
            behind = flats[-1]
            try:
                if step[0] == "read":
                    told.append(flat_read(behind, *step[1:]))
                elif type(answer) is str and answer in ("done", "place", "copy", "granted"):
                    behind = flat_behind(behind, step, True)
            except SwornError as error:
                if step[0] == "read":
                    told.append(type(error).__name__)
            if step[0] != "read":
                told.append(answer)
            flats.append(behind)
        return tuple(told), tuple(flats)

    def test_right_answers(self):
        for _, house, script in cases(192, 300):
            answers, houses = run(house, script)
            told, flats = run_flat(flat_of(house), script, answers)
            self.assertEqual(told, answers)
            self.assertEqual(flats, tuple(flat_of(behind) for behind in houses))
            self.assertIsNone(first_unlike(flat_of(house), script, answers))
            self.assertIs(agrees(house, script), True)

    def test_answers_with_one_otherwise(self):
        reads = 0
        for rng, house, script in cases(193, 250):
            answers, flat = run(house, script)[0], flat_of(house)
            for at, (step, answer) in enumerate(zip(script, answers)):
                others = [None, True, False, "", str(answer), "NoPlace", "NoProcess", "NoGroup", 7, [answer], (answer,), {0: answer}]
                others += [answer + 1, -answer - 1] if isinstance(answer, int) else []
                for other in rng.sample(others, 3):
                    changed = answers[:at] + (other,) + answers[at + 1:]
                    told = self.told(flat, script, changed)
                    self.assertEqual(run_flat(flat, script, changed), told)
                    unlike = [index for index, step in enumerate(script) if step[0] == "read" and not self.same(changed[index], told[0][index])]
                    self.assertEqual(first_unlike(flat, script, changed), unlike[0] if unlike else None)
                    if step[0] == "read":
                        reads += 1
                        self.assertEqual(first_unlike(flat, script, changed), None if self.same(other, answer) else at)
        self.assertGreater(reads, 300)

    def same(self, one, other):
        return type(one) is type(other) and one == other

    def test_truths_are_no_numbers(self):
        flat = flat_behind(flat_of(first_house(2, 0)), ("begin", 0, 2, ()), True)
        flat = flat_behind(flat, ("write", 0, 1, 1), True)
        script = (("read", 0, 0), ("read", 0, 1), ("read", 0, 2))
        self.assertIsNone(first_unlike(flat, script, (0, 1, "NoPlace")))
        for at, answers in enumerate([(False, 1, "NoPlace"), (0, True, "NoPlace"), (0, 1, "NoProcess"), (0, 1, None)]):
            self.assertEqual(first_unlike(flat, script, answers), min(at, 2))

    def test_any_values(self):
        rng = random.Random(194)
        for _, house, script in cases(195, 60):
            flat = flat_of(house)
            answers = tuple(rng.choice(samples.odd_values() + ["done", "copy", "place", "granted", "refused"]) for _ in script)
            told, flats = run_flat(flat, script, answers)
            self.assertEqual((told, flats), self.told(flat, script, answers))
            self.assertTrue(all(is_flat(other) for other in flats))
            first_unlike(flat, script, answers)

    def test_steps_that_name_what_is_not_there(self):
        """What raises an error in a flat memory changes nothing, whatever is said to be answered."""
        flat = flat_behind(flat_of(first_house(2, 0)), ("begin", 0, 1, ()), True)
        for step in (("write", 1, 0, 1), ("write", 0, 1, 1), ("exit", 1), ("forget", 0), ("back", 0, 0), ("send", 0, 0, 1), ("common", (0, 1), 1)):
            for answer in ("done", "place", "copy", "granted"):
                self.assertEqual(run_flat(flat, (step,), (answer,)), ((answer,), (flat, flat)))
        self.assertNotEqual(run_flat(flat, (("write", 0, 0, 1),), ("place",))[1][1], flat)
        for answer in ("refused", "Done", ("done",), ["done"], True, None, "NoPlace"):
            self.assertEqual(run_flat(flat, (("write", 0, 0, 1),), (answer,))[1], (flat, flat))

    def test_what_is_returned_is_new(self):
        flat = flat_behind(flat_of(first_house(2, 0)), ("begin", 0, 1, ()), True)
        inner = [1]
        answers = ([inner, (inner, {"a": inner})], {2: inner, 1: [inner]})
        told = run_flat(flat, (("exit", 0), ("drop", 0, 0)), answers)[0]
        self.assertEqual(told, answers)
        told[0][0].append(2)
        told[0][1][0].append(3)
        told[0][1][1]["a"].append(4)
        told[1][2].append(5)
        told[1][1][0].append(6)
        self.assertEqual([inner, told[0], told[1]], [[1], [[1, 2], ([1, 3], {"a": [1, 4]})], {2: [1, 5], 1: [[1, 6]]}])
        self.assertEqual(answers, ([[1], ([1], {"a": [1]})], {2: [1], 1: [[1]]}))


class GreatHouses(unittest.TestCase):
    def test_each_call_ends_within_moments(self):
        rng = random.Random(196)
        for house in samples.great_houses(rng)[::3]:
            house = (10 ** 9, 10 ** 9, tuple((row[0], None) for row in house[2])) + house[3:]
            script = tuple(("read",) + place for place in rng.sample(list(places_of(house)), 10))
            script += tuple(("write",) + place + (3,) for place in rng.sample(list(places_of(house)), 10))
            script += (("snapshot", house[4][0][0]), ("fork", house[4][1][0], 1, ()), ("back", house[5][0][0], house[4][2][0]), ("group", 0, 0))
            with samples.moments(self):
                answers, houses = run(house, script)
                told = levels(house, script)
                self.assertIs(agrees(house, script), True)
            self.assertEqual(len(told), len(script) + 1)
            self.assertTrue(all(same_shown(behind, flat) for behind, flat in zip(houses, run_flat(flat_of(house), script, answers)[1])))

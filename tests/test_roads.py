"""[1] and [5] over the whole program: all roads lead to the same answers, houses and contents."""

import random
import unittest

import samples
import slow
from pagesworn.desk import Desk
from pagesworn.errors import SwornError
from pagesworn.flat import first_flat, flat_behind, flat_of, flat_read
from pagesworn.forms import is_deed, places_of, readers_of
from pagesworn.kernel import Kernel
from pagesworn.machine import Machine
from pagesworn.need import capacity, live, need
from pagesworn.refusals import answer_to, is_refusal_paper
from pagesworn.runs import agrees, behind_step, levels, run, run_flat
from pagesworn.texts import deed_line, house_text, read_house, read_script, script_text
from pagesworn.wishes import first_house


def is_wide(house, step):
    """Whether a step could lead beyond what a kernel lets."""
    many = len(places_of(house))
    if step[0] in ("begin", "fork") and len(house[4]) > 9 or step[0] == "snapshot" and (len(house[5]) > 6 or len(readers_of(house)) > 60):
        return True
    return step[0] == "group" and len(house[2]) > 5 or step[0] in ("begin", "more", "fork", "common", "send", "back") and many > 55


def random_step(rng, house):
    places = list(places_of(house))
    kind = rng.random()
    if places and kind < 0.25:
        return ("read",) + rng.choice(places)
    if places and kind < 0.5:
        return ("write",) + rng.choice(places) + (rng.randint(-9, 9),)
    if not house[4] or kind < 0.58:
        return ("begin", rng.randrange(len(house[2])), rng.randint(1, 4), (((0, 1, 2, 3), rng.randint(0, 4)),))
    while True:
        step = samples.random_step(rng, house)
        if not is_wide(house, step):
            return step


def random_script(rng, house, many):
    script = []
    for _ in range(many):
        script.append(random_step(rng, house))
        house = behind_step(house, script[-1])[0]
    return tuple(script)


def called(thing, step):
    """What a kernel or a machine answers to a step, an error by its name."""
    try:
        if step[0] == "read":
            return thing.read(*step[1:])
        return thing.do(step) if is_deed(step) else thing.wish(step)
    except SwornError as error:
        return type(error).__name__


def moved_about(rng, machine):
    """Moves cells of a machine to and fro."""
    frames, slots = machine.layout()
    for _ in range(rng.randint(0, 2)):
        rng.choice((machine.put_out, machine.turn))(rng.randrange(len(frames)))
        if slots:
            machine.bring(rng.randrange(len(slots)))


class Roads(unittest.TestCase):
    def test_all_roads_agree(self):
        seen = set()
        for seed in range(150):
            rng = random.Random(20000 + seed)
            frames, slots = rng.randint(2, 6), rng.choice((0, 1, 3, 8))
            first = first_house(frames, slots)
            script = random_script(rng, first, 30)
            self.assertEqual(read_script(script_text(script)), script)
            answers, houses = run(first, script)
            told, flats = run_flat(first_flat(), script, answers)
            self.assertTrue(told == answers and agrees(first, script))
            kernel, desk = Kernel(frames, slots), Desk(f"room {frames} {slots}")
            machines = [Machine(first, near) for near in (0, rng.randint(1, 8))]
            for step, answer, house, flat in zip(script, answers, houses[1:], flats[1:]):
                moved_about(rng, machines[1])
                self.assertEqual([called(thing, step) for thing in [kernel] + machines], [answer] * 3)
                line = str(answer) if not str(answer).startswith("No") else f"error {answer}"
                self.assertEqual(desk.execute(deed_line(step)), [line])
                self.assertEqual([kernel.house(), machines[0].house(), machines[1].house(), read_house("\n".join(desk.execute("house")))], [house] * 4)
                self.assertEqual(flat_of(house), flat)
                self.assertEqual(desk.execute("need"), [f"{live(house)} {need(house)} {capacity(house)}"])
                seen.add((step[0], answer if isinstance(answer, str) else "content"))
            self.hold_contents(rng, [kernel] + machines, desk, houses[-1], flats[-1])
            self.assertEqual(desk.kernel(), kernel)
            self.assertEqual(Desk("\n".join([f"room {frames} {slots}", script_text(script)])).kernel(), kernel)
            self.assertEqual([row[1] for row in levels(first, script)], [need(house) for house in houses])
        for word in slow.STEPS:
            self.assertTrue({(word, answer) for answer in ("done", "granted", "copy")} & seen, word)
        self.assertTrue({("read", "content"), ("write", "place"), ("write", "refused"), ("fork", "refused"), ("raise", "refused")} <= seen)

    def hold_contents(self, rng, things, desk, house, flat):
        """What each place shows, on every road."""
        for place in places_of(house):
            moved_about(rng, things[-1])
            told = [thing.read(*place) for thing in things] + [int(desk.execute(f"read {place[0]} {place[1]}")[0])]
            self.assertEqual(told, [flat_read(flat, *place)] * 4)

    def test_from_any_house_on(self):
        """Machines of houses in which all sorts of things stand, against a flat memory."""
        for seed in range(60):
            rng = random.Random(21000 + seed)
            house = samples.any_house(rng)
            house = (max(2, need(house)), rng.randint(0, 3), tuple((row[0], None) for row in house[2])) + house[3:]
            machine, flat = Machine(house, 8), flat_of(house)
            for _ in range(25):
                step = random_step(rng, house)
                house, answer = behind_step(house, step)
                moved_about(rng, machine)
                self.assertEqual([called(machine, step), machine.house()], [answer, house])
                if step[0] != "read" and answer in ("done", "place", "copy", "granted"):
                    flat = flat_behind(flat, step, True)
            for place in places_of(house):
                self.assertEqual(machine.read(*place), flat_read(flat, *place))

    def test_nobody_is_ever_killed(self):
        """[1], [6], [8]: each write that its forest lets finds room; a refusal bears a row that a kernel with more room can do."""
        refused = 0
        for seed in range(60):
            rng = random.Random(22000 + seed)
            kernel = Kernel(2, rng.randint(0, 4))
            for step in random_script(rng, kernel.house(), 25):
                house = kernel.house()
                answer = called(kernel, step)
                if answer == "refused" and not is_deed(step):
                    refused += 1
                    word, (group, row) = answer_to(house, step)
                    self.assertTrue(word == "refused" and is_refusal_paper(house, step, (group, row)))
                    later = slow.behind(house, [step])
                    for deed in row:
                        later, told = behind_step(later, deed)
                        self.assertIn(told, ("copy", "done"))
                    if group is None:
                        self.assertEqual(live(later), max(capacity(later) + 1, live(slow.behind(house, [step]))))
                    else:
                        self.assertGreater(slow.group_live(later, group), later[2][group][1])
                elif step[0] == "write" and answer == "refused":
                    forest = [row[3] for row in house[4] if row[0] == step[1]][0]
                    self.assertFalse(slow.lets(forest, step[2]))
                self.assertLessEqual(kernel.need(), capacity(kernel.house()))
        self.assertGreater(refused, 50)

    def test_texts_of_what_is_come_to(self):
        for seed in range(40):
            rng = random.Random(23000 + seed)
            script = random_script(rng, first_house(4, 4), 25)
            for house in run(first_house(4, 4), script)[1]:
                self.assertEqual(read_house(house_text(house)), house)

"""[32], with the guarantee [5]: machines."""

import random
import unittest

import samples
import slow
import slow_machine
from pagesworn.deeds import behind_deed, read, write_answer
from pagesworn.errors import NoPlace, NoProcess, SwornError
from pagesworn.flat import flat_behind, flat_of, flat_read, same_shown
from pagesworn.forms import is_deed, is_house, places_of
from pagesworn.inside import group_needs, is_kept
from pagesworn.layouts import is_layout, meaning, near_swept, table_in
from pagesworn.machine import Machine
from pagesworn.need import need
from pagesworn.wishes import behind_wish, first_house


def state(machine):
    return machine.house(), machine.layout(), machine.near(), machine.marks(), machine.hand(), machine.hits()


def kept_house(rng, house, frames=(2, 2, 3, 4, 8)):
    """The house with so few frames, and with so many slots that it is kept."""
    room = max(2, need(house)) + rng.choice((0, 0, 1, 3))
    many = min(room, rng.choice(frames))
    rooms = [None] + [rng.choice([None, number, number + 1, number + 3]) for number in group_needs(house)[1:]]
    return (many, room - many, tuple(zip([row[0] for row in house[2]], rooms))) + house[3:]


def sharing_house(rng):
    """A kept house of which most writes are copies, and whose cells do not all have a frame."""
    while True:
        house = samples.shared_house(rng, 4, rng.choice((8, 12)))
        rows = tuple(row[:3] + ((((tuple(range(row[2])), rng.randint(1, 4)),) if row[2] else ()),) for row in house[4])
        house = house[:4] + (rows,) + house[5:]
        if len(house[6]) > 1:
            return kept_house(rng, house)


def any_kept_house(rng):
    return sharing_house(rng) if rng.random() < 0.6 else kept_house(rng, samples.any_house(rng))


def is_too_wide(house, step):
    """Whether a step would make a house of a test grow without end."""
    born = step[0] in ("begin", "fork") and len(house[4]) > 6 or step[0] == "snapshot" and len(house[5]) > 4
    return born or step[0] in ("more", "common", "begin", "fork", "send") and len(places_of(house)) > 40


def random_call(rng, house):
    """A tuple (method, arguments) for a machine with this house."""
    places = list(places_of(house))
    place = rng.choice(places) if places and rng.random() < 0.95 else (rng.randint(0, 9), rng.randint(0, 5))
    kind = rng.random()
    if kind < 0.35:
        return "read", place
    if kind < 0.5:
        return rng.choice([("put_out", (rng.randrange(house[0]),)), ("turn", (rng.randrange(house[0]),))]
                          + [("bring", (slot,)) for slot in range(house[1])][:3])
    if kind < 0.75 and places:
        return "do", (("write",) + rng.choice(places) + (rng.randint(-9, 9),),)
    while True:
        step = samples.random_step(rng, house)
        if not is_too_wide(house, step):
            return ("do" if is_deed(step) else "wish"), (step,)


def done(machine, call):
    """What the call returns, or the error that it raises."""
    method, arguments = call
    try:
        return getattr(machine, method)(*arguments)
    except SwornError as error:
        return type(error).__name__, tuple(vars(error).values())


def slowly_done(machine, call):
    method, arguments = call
    if method == "read":
        error = machine.told.error(("drop",) + arguments)
    else:
        error = machine.told.error(arguments[0]) if method in ("do", "wish") else None
    return getattr(machine, method)(*arguments) if error is None else error


class Steps(unittest.TestCase):
    def test_rows_of_calls_against_the_steps_that_are_told(self):
        seen, answers = set(), set()
        for seed in range(500):
            rng = random.Random(1000 + seed)
            house, most = any_kept_house(rng), rng.choice((0, 1, 2, 3, 8))
            machine, slowly = Machine(house, most), slow_machine.Machine(house, most)
            self.assertEqual(state(machine), slowly.state())
            for _ in range(40):
                call = random_call(rng, machine.house())
                told = done(machine, call)
                answers.add((call[0], told if isinstance(told, (str, bool)) else told is None))
                self.assertEqual(told, slowly_done(slowly, call), (seed, call))
                self.assertEqual(state(machine), slowly.state(), (seed, call))
            self.assertEqual(machine.hits() == 0, slowly.hits == 0)
            seen |= slowly.seen | {("hits", most, machine.hits() > 0)}
        for kind in ("held", "mark", "exchange", "fetch to a free frame", ("copy", True, True), ("copy", True, False),
                     ("copy", False, True), ("copy", False, False), ("beyond", "frames", True), ("beyond", "frames", False),
                     ("beyond", "slots", True), ("beyond", "slots", False), ("new", "common", True), ("new", "common", False),
                     ("new", "snapshot", False), ("hits", 1, True), ("hits", 8, True)):
            self.assertIn(kind, seen)
        self.assertNotIn(("hits", 0, True), seen)
        for word in ("place", "copy", "refused", "done"):
            self.assertIn(("do", word), answers)
        self.assertTrue({("wish", "granted"), ("wish", "refused"), ("put_out", True), ("put_out", False), ("bring", True), ("bring", False),
                         ("turn", True)} <= answers)

    def test_what_always_holds(self):
        """The layout and the tables are those of the house, and a near-table tells the truth."""
        for seed in range(150):
            rng = random.Random(2000 + seed)
            most = rng.choice((0, 1, 8))
            machine = Machine(any_kept_house(rng), most)
            for _ in range(25):
                done(machine, random_call(rng, machine.house()))
                house, layout, near = machine.house(), machine.layout(), machine.near()
                self.assertTrue(is_house(house) and is_kept(house) and is_layout(house, layout))
                self.assertEqual(near_swept(near, layout), near)
                self.assertLessEqual(len(near), most)
                self.assertEqual([len(machine.marks()), 0 <= machine.hand() < house[0]], [house[0], True])
                for mark, cell in zip(machine.marks(), layout[0]):
                    self.assertIs(type(mark), bool)
                    self.assertFalse(mark and cell is None)
                for row in house[4]:
                    self.assertEqual(machine.table(row[0]), table_in(house, layout, row[0]))
                self.assertEqual(meaning(layout), {place: house[6][index][0] for place, index in places_of(house).items() if index is not None})

    def test_against_a_flat_memory(self):
        """[5]: what is read, and what is answered, whoever fetches and puts out."""
        reads = 0
        for seed in range(200):
            rng = random.Random(3000 + seed)
            house = any_kept_house(rng)
            machine, flat = Machine(house, rng.choice((0, 1, 8))), flat_of(house)
            for _ in range(30):
                house = machine.house()
                method, arguments = call = random_call(rng, house)
                told = done(machine, call)
                if method in ("do", "wish") and isinstance(told, str):
                    flat = flat_behind(flat, arguments[0], told != "refused")
                    behind = behind_deed(house, arguments[0]) if method == "do" else (behind_wish(house, arguments[0]), "granted")
                    self.assertEqual((machine.house(), told), behind if told != "refused" else (house, told))
                elif method == "read" and isinstance(told, int):
                    reads += 1
                    self.assertEqual([told, told], [read(house, *arguments), flat_read(flat, *arguments)])
                self.assertTrue(same_shown(machine.house(), flat))
        self.assertGreater(reads, 1000)

    def test_two_machines_differently_moved_about(self):
        for seed in range(150):
            rng = random.Random(4000 + seed)
            house = any_kept_house(rng)
            one, other = Machine(house, 8), Machine(house, rng.choice((0, 1)))
            apart = False
            for _ in range(30):
                call = random_call(rng, one.house())
                if call[0] in ("put_out", "bring", "turn"):
                    done(rng.choice((one, other)), call)
                else:
                    self.assertEqual(done(one, call), done(other, call))
                self.assertEqual(one.house(), other.house())
                apart = apart or one.layout() != other.layout()
            self.assertEqual([[one.read(*place) for place in places_of(one.house())]] * 2,
                             [[machine.read(*place) for place in places_of(one.house())] for machine in (one, other)])

    def test_a_twin_goes_its_own_way(self):
        for seed in range(100):
            rng = random.Random(5000 + seed)
            machine = Machine(any_kept_house(rng), 8)
            for _ in range(rng.randint(0, 15)):
                done(machine, random_call(rng, machine.house()))
            ahead = state(machine)
            twin = machine.twin()
            self.assertIsInstance(twin, Machine)
            self.assertEqual(state(twin), ahead)
            calls, answers = [], []
            for _ in range(15):
                calls.append(random_call(rng, twin.house()))
                answers.append(done(twin, calls[-1]))
                self.assertEqual(state(machine), ahead)
            behind = state(twin)
            self.assertEqual([done(machine, call) for call in calls], answers)
            self.assertEqual([state(machine), state(twin)], [behind, behind])


class ByHand(unittest.TestCase):
    def machine(self, frames, slots, pages, near=8):
        """A machine with a process that has written all of its pages but the last one, with the contents 0, 1, 2 .."""
        house = behind_wish(first_house(frames, slots), ("begin", 0, pages, ((tuple(range(pages)), pages),)))
        for page in range(pages - 1):
            house = behind_deed(house, ("write", 0, page, page))[0]
        return Machine(house, near)

    def lying(self, machine):
        """The contents in the frames, and in the slots."""
        return [[None if cell is None else cell[0] for cell in part] for part in machine.layout()]

    def test_at_first(self):
        machine = self.machine(2, 4, 5)
        self.assertEqual(self.lying(machine), [[0, 1], [2, 3, None, None]])
        self.assertEqual([machine.near(), machine.marks(), machine.hand(), machine.hits()], [(), (False, False), 0, 0])
        self.assertEqual(machine.table(0), (2, ((("frame", 0, True), ("frame", 1, True), ("slot", 0, False), ("slot", 1, False)),
                                                (("zero", 0, False), None, None, None), None, None)))

    def test_reads(self):
        machine = self.machine(2, 4, 5)
        self.assertEqual(machine.read(0, 4), 0)
        self.assertEqual([machine.near(), machine.marks(), machine.hand(), machine.hits()], [(), (False, False), 0, 0])
        self.assertEqual([machine.read(0, 3), self.lying(machine), machine.hand(), machine.marks()],
                         [3, [[3, 1], [2, 0, None, None]], 1, (True, False)])
        self.assertEqual([machine.read(0, 3), machine.hits(), machine.near()], [3, 1, ((0, 3, 0, True),)])
        self.assertEqual([machine.read(0, 0), self.lying(machine), machine.hand(), machine.marks()],
                         [0, [[3, 0], [2, 1, None, None]], 0, (True, True)])
        # Both are marked: the hand goes round, and takes the marks away, until it is where it began.
        self.assertEqual([machine.read(0, 2), self.lying(machine), machine.hand(), machine.marks()],
                         [2, [[2, 0], [3, 1, None, None]], 1, (True, False)])
        self.assertEqual([machine.near(), machine.hits()], [((0, 2, 0, True), (0, 0, 1, True)), 1])
        self.assertEqual([machine.put_out(0), machine.marks(), machine.near(), self.lying(machine)],
                         [True, (False, False), ((0, 0, 1, True),), [[None, 0], [3, 1, 2, None]]])
        # A free frame is taken first, and the hand stays.
        self.assertEqual([machine.read(0, 1), self.lying(machine), machine.hand(), machine.marks()],
                         [1, [[1, 0], [3, None, 2, None]], 1, (True, False)])

    def test_writes(self):
        machine = self.machine(2, 4, 5)
        self.assertEqual([machine.do(("write", 0, 1, 7)), machine.hits(), machine.near(), machine.marks()],
                         ["place", 0, ((0, 1, 1, True),), (False, True)])
        self.assertEqual([machine.do(("write", 0, 1, 8)), machine.hits(), machine.read(0, 1), machine.hits()], ["place", 1, 8, 2])
        # A copy from zeros: no frame is held, and frame 0 is cleared.
        self.assertEqual([machine.do(("write", 0, 4, 4)), self.lying(machine), machine.hand(), machine.marks(), machine.hits()],
                         ["copy", [[4, 8], [2, 3, 0, None]], 1, (True, True), 2])
        self.assertEqual(machine.near(), ((0, 4, 0, True), (0, 1, 1, True)))

    def test_a_copy_of_a_cell_that_is_held(self):
        house = behind_wish(first_house(2, 3), ("begin", 0, 2, (((0, 1), 2),)))
        for page in (0, 1):
            house = behind_deed(house, ("write", 0, page, page + 3))[0]
        house = behind_wish(house, ("fork", 0, 0, (((0, 1), 2),)))
        machine = Machine(house, 2)
        machine.read(1, 0)
        machine.turn(0)
        self.assertEqual([machine.near(), machine.marks(), machine.hand()], [((1, 0, 0, False),), (True, False), 0])
        # The cell of (1, 0) lies in frame 0, which is held, though the hand is there: the other one is cleared.
        self.assertEqual([machine.do(("write", 1, 0, 9)), self.lying(machine), machine.marks(), machine.hand()],
                         ["copy", [[3, 9], [4, None, None]], (True, True), 0])
        self.assertEqual([machine.near(), machine.hits()], [((1, 0, 1, True),), 0])
        # A cell in a slot is fetched first: both marks go, frame 0 is exchanged, and then frame 1 is cleared.
        self.assertEqual([machine.do(("write", 1, 1, 8)), self.lying(machine), machine.marks(), machine.hand()],
                         ["copy", [[4, 8], [3, 9, None]], (True, True), 0])
        self.assertEqual(machine.near(), ((1, 1, 1, True),))

    def test_closed_stays_closed_until_it_is_met_again(self):
        house = behind_wish(first_house(3, 0), ("begin", 0, 1, (((0,), 1),)))
        house = behind_wish(behind_deed(house, ("write", 0, 0, 5))[0], ("fork", 0, 0, (((0,), 1),)))
        machine = Machine(house, 3)
        machine.read(0, 0)
        self.assertEqual(machine.near(), ((0, 0, 0, False),))
        machine.do(("exit", 1))
        self.assertEqual(machine.near(), ((0, 0, 0, False),))
        self.assertEqual([machine.do(("write", 0, 0, 6)), machine.hits(), machine.near()], ["place", 0, ((0, 0, 0, True),)])
        self.assertEqual([machine.do(("write", 0, 0, 6)), machine.hits()], ["place", 1])
        machine.wish(("snapshot", 0))
        self.assertEqual([machine.near(), machine.read(0, 0), machine.hits()], [((0, 0, 0, False),), 6, 2])

    def test_frames_and_slots_that_go(self):
        machine = self.machine(5, 2, 6)
        machine.turn(4)
        self.assertEqual([machine.read(0, 2), machine.read(0, 4), machine.marks()], [2, 4, (False, False, True, False, True)])
        self.assertEqual([machine.put_out(1), self.lying(machine)], [True, [[0, None, 2, 3, 4], [1, None]]])
        # Of the cells beyond the first one goes to the free frame, the other one to the free slot.
        self.assertEqual([machine.wish(("frames", 3)), machine.wish(("frames", 4))], ["refused", "granted"])
        self.assertEqual([self.lying(machine), machine.hand(), machine.marks()], [[[0, 4, 2, 3], [1, None]], 0, (False, False, True, False)])
        machine.turn(2)
        self.assertEqual([machine.wish(("slots", 6)), machine.wish(("frames", 2)), self.lying(machine)],
                         ["granted", "granted", [[0, 4], [1, 2, 3, None, None, None]]])
        self.assertEqual([machine.hand(), machine.marks(), machine.near()], [0, (False, False), ()])
        self.assertEqual([machine.wish(("frames", 6)), machine.wish(("slots", 1)), self.lying(machine)],
                         ["granted", "granted", [[0, 4, 2, 3, None, None], [1]]])
        self.assertEqual([machine.wish(("slots", 0)), self.lying(machine), machine.marks()],
                         ["granted", [[0, 4, 2, 3, 1, None], []], (False,) * 6])

    def test_put_out_bring_and_turn(self):
        machine = self.machine(3, 2, 4)
        self.assertEqual(self.lying(machine), [[0, 1, 2], [None, None]])
        ahead = state(machine)
        self.assertEqual([machine.bring(0), machine.bring(1), state(machine) == ahead], [False, False, True])
        machine.read(0, 1)
        self.assertEqual([machine.put_out(1), machine.put_out(1), machine.marks(), machine.near()], [True, False, (False,) * 3, ()])
        self.assertEqual([machine.put_out(0), machine.put_out(2), self.lying(machine)], [True, False, [[None, None, 2], [1, 0]]])
        self.assertEqual([machine.bring(1), self.lying(machine), machine.marks(), machine.near()], [True, [[0, None, 2], [1, None]], (False,) * 3, ()])
        self.assertEqual([machine.turn(2), machine.hand(), machine.turn(0), machine.hand()], [None, 2, None, 0])

    def test_new_cells_come_in_order(self):
        machine = self.machine(4, 4, 3)
        machine.put_out(0)
        machine.read(0, 1)
        self.assertEqual(self.lying(machine), [[None, 1, None, None], [0, None, None, None]])
        self.assertEqual([machine.wish(("common", (0,), 4)), self.lying(machine)], ["granted", [[0, 1, 0, 0], [0, 0, None, None]]])
        self.assertEqual([machine.layout()[0][0][2], machine.layout()[0][3][2], machine.layout()[1][1][2]], [((0, 3),), ((0, 5),), ((0, 6),)])
        self.assertEqual([machine.marks(), machine.near()], [(False, True, False, False), ((0, 1, 1, True),)])

    def test_back(self):
        """Places go from cell to cell: each cell that is still there stays where it lies."""
        machine = self.machine(3, 6, 4)
        machine.wish(("snapshot", 0))
        machine.do(("write", 0, 0, 9))
        machine.put_out(1)
        ahead = self.lying(machine)
        self.assertEqual(machine.wish(("back", 0, 0)), "granted")
        told = [[content if content != 9 else None for content in part] for part in ahead]
        self.assertEqual(self.lying(machine), told)
        self.assertEqual([machine.read(0, page) for page in range(4)], [0, 1, 2, 0])


class Errors(unittest.TestCase):
    def test_errors_change_nothing(self):
        rng = random.Random(170)
        machine = Machine(sharing_house(rng), 8)
        for place in places_of(machine.house()):
            machine.read(*place)
        ahead = state(machine)
        number = machine.house()[4][0][0]
        calls = [("read", (99, 0), NoProcess), ("read", (number, 999), NoPlace), ("table", (99,), NoProcess),
                 ("do", (("write", 99, 0, 1),), NoProcess), ("do", (("write", number, 999, 1),), NoPlace)]
        for method, arguments, error in calls:
            with self.assertRaises(error):
                getattr(machine, method)(*arguments)
            self.assertEqual(state(machine), ahead)
        seen = set()
        for _ in range(600):
            step = samples.random_step(rng, machine.house())
            told = slow.House(machine.house()).error(step)
            if told is not None:
                seen.add(told[0])
                self.assertEqual(done(machine, ("do" if is_deed(step) else "wish", (step,))), told)
                self.assertEqual(state(machine), ahead)
        self.assertEqual(seen, {"NoProcess", "NoPlace", "NoGroup", "NoSnapshot", "NoTicket"})

    def test_refused_ones_change_nothing(self):
        rng = random.Random(171)
        for _ in range(100):
            machine = Machine(any_kept_house(rng), 8)
            for place in places_of(machine.house()):
                ahead = state(machine)
                if write_answer(machine.house(), *place) == "refused":
                    self.assertEqual([machine.do(("write",) + place + (3,)), state(machine)], ["refused", ahead])
                else:
                    machine.read(*place)


class GreatHouses(unittest.TestCase):
    def test_each_call_ends_within_moments(self):
        rng = random.Random(172)
        for at in range(4):
            house = samples.tight_house(rng)
            frames = (2, 30, 60, 60)[at]
            house = (frames, 60, tuple((row[0], None) for row in house[2])) + house[3:]
            house = house if is_kept(house) else (60, 60) + house[2:]
            rows = house[4] if is_kept(house) else tuple(row[:3] + ((),) for row in house[4])
            house = house[:4] + (rows,) + house[5:]
            self.assertTrue(is_house(house) and is_kept(house))
            machine = Machine(house, 8)
            places = rng.sample(list(places_of(house)), 40)
            with samples.moments(self):
                for place in places:
                    machine.read(*place)
                    machine.do(("write",) + place + (7,))
                for step in (("snapshot", 3), ("frames", 50), ("back", 0, 1), ("common", (0, 1), 2), ("slots", 59)):
                    done(machine, ("wish", (step,)))
                    machine.table(0)
            self.assertTrue(is_layout(machine.house(), machine.layout()))

"""[24], with GROUPS, INSIDE and KEPT of [2], and the guarantees [6] and [7]: insides."""

import random
import unittest

import samples
import slow
from pagesworn.deeds import behind_deed, behind_row, write_answer
from pagesworn.errors import NoGroup
from pagesworn.inside import (first_broken, group_live, group_need, group_needs, inside, is_kept, is_within, leaving_row, members,
                              spare)
from pagesworn.need import capacity, live, need, reaching_row
from pagesworn.wishes import behind_wish, first_house

# Group 3 is within 1, 4 within 3, 2 stands beside; processes 0 and 9 are in none but group 0, and nobody is in 4.
GROUPS = ((None, None), (0, 4), (0, None), (1, 0), (3, None))
PROCESSES = ((0, 0, 3, (((0, 1), 2),)), (2, 1, 4, (((0, 1, 2), 2), ((3,), 1))), (4, 2, 2, (((0,), 1),)), (6, 3, 3, (((0, 2), 1),)),
             (9, 0, 0, ()))
SNAPSHOTS = ((0, 3, (2,)), (2, 1, ()))
CELLS = (
    (1, "common", ((2, 3), (6, 1)), ()),  # within group 1 alone
    (2, "common", ((0, 2), (6, 2)), ()),  # across
    (3, "own", ((2, 0), (6, 0)), ()),  # within group 1 alone
    (4, "own", ((0, 0), (2, 1), (4, 0)), ((0, 0),)),  # across, and read
    (5, "own", ((2, 2),), ((2, 0),)),  # read
    (6, "own", (), ((0, 1),)),
)
HOUSE = (4, 4, GROUPS, (10, 3), PROCESSES, SNAPSHOTS, CELLS, ((0, 1), (4, 1)))

OF_ONE = ("members", "leaving_row", "inside", "group_live", "group_need", "spare")
FUNCTIONS = {"members": members, "leaving_row": leaving_row, "inside": inside, "group_live": group_live,
             "group_need": group_need, "spare": spare}


def houses(seed, many):
    rng = random.Random(seed)
    return [HOUSE, first_house(2, 0)] + [samples.any_house(rng) for _ in range(many)]


class Within(unittest.TestCase):
    def test_groups_within_groups(self):
        told = [[is_within(HOUSE, group, other) for other in range(5)] for group in range(5)]
        self.assertEqual(told, [[True, False, False, False, False], [True, True, False, False, False], [True, False, True, False, False],
                                [True, True, False, True, False], [True, True, False, True, True]])
        for house in houses(50, 200):
            for group in range(len(house[2])):
                for other in range(len(house[2])):
                    self.assertIs(is_within(house, group, other), slow.within(house, group, other))

    def test_members(self):
        self.assertEqual([members(HOUSE, group) for group in range(5)], [(0, 2, 4, 6, 9), (2, 6), (4,), (6,), ()])
        for house in houses(51, 200):
            for group in range(len(house[2])):
                self.assertEqual(members(house, group), tuple(row[0] for row in house[4] if slow.within(house, row[1], group)))

    def test_no_such_group(self):
        for group in (5, 6, 10 ** 39):
            for name in OF_ONE:
                with self.subTest(name=name), self.assertRaises(NoGroup) as caught:
                    FUNCTIONS[name](HOUSE, group)
                self.assertEqual(vars(caught.exception), {"group": group})
                with self.subTest(name=name), self.assertRaises(NoGroup):
                    FUNCTIONS[name](first_house(2, 0), group)
            for pair, first in (((group, 0), group), ((0, group), group), ((group, 77), group), ((77, group), 77)):
                with self.assertRaises(NoGroup) as caught:
                    is_within(HOUSE, *pair)
                self.assertEqual(vars(caught.exception), {"group": first})


class Insides(unittest.TestCase):
    def test_leaving(self):
        forgets = (("forget", 0), ("forget", 2))
        self.assertEqual(leaving_row(HOUSE, 0), forgets)
        self.assertEqual(leaving_row(HOUSE, 1), (("exit", 0), ("exit", 4), ("exit", 9)) + forgets)
        self.assertEqual(leaving_row(HOUSE, 4), tuple(("exit", row[0]) for row in PROCESSES) + forgets)
        self.assertEqual(leaving_row(first_house(2, 0), 0), ())
        for house in houses(52, 200):
            for group in range(len(house[2])):
                self.assertEqual(leaving_row(house, group), tuple(slow.leaving(house, group)))

    def test_insides(self):
        self.assertEqual(inside(HOUSE, 3)[4:], (
            (PROCESSES[3],), (), ((1, "common", ((6, 1),), ()), (2, "common", ((6, 2),), ()), (3, "own", ((6, 0),), ())), ()))
        self.assertEqual(inside(HOUSE, 4)[4:], ((), (), (), ()))
        rng = random.Random(53)
        for house in houses(53, 400) + samples.great_houses(rng):
            for group in range(len(house[2])):
                with samples.moments(self):
                    found = inside(house, group)
                self.assertEqual(found, slow.inside(house, group))
                self.assertEqual(found, behind_row(house, leaving_row(house, group))[0])

    def test_an_inside_of_an_inside(self):
        for house in houses(54, 200):
            for group in range(len(house[2])):
                part = inside(house, group)
                self.assertEqual(inside(part, group), part)
                for other in range(len(house[2])):
                    if is_within(house, other, group):
                        self.assertEqual(inside(part, other), inside(house, other))
                        self.assertEqual(group_need(part, other), group_need(house, other))


class Numbers(unittest.TestCase):
    def test_live(self):
        self.assertEqual([group_live(HOUSE, group) for group in range(5)], [3, 2, 0, 0, 0])
        rng = random.Random(55)
        for house in houses(55, 400) + samples.great_houses(rng):
            for group in range(len(house[2])):
                self.assertEqual(group_live(house, group), slow.group_live(house, group))
                self.assertLessEqual(group_live(house, group), live(inside(house, group)))

    def test_needs(self):
        self.assertEqual(group_needs(HOUSE), tuple(slow.need(slow.inside(HOUSE, group)) for group in range(5)))
        self.assertEqual(group_needs(HOUSE), (9, 6, 1, 3, 0))
        for house in houses(56, 400):
            needs = group_needs(house)
            self.assertEqual(needs, tuple(slow.need(slow.inside(house, group)) for group in range(len(house[2]))))
            self.assertEqual(needs, tuple(group_need(house, group) for group in range(len(house[2]))))
            for group, row in enumerate(house[2]):
                self.assertEqual(spare(house, group), None if row[1] is None else row[1] - needs[group])

    def test_need_of_the_group_above_is_no_less(self):
        rng = random.Random(57)
        for house in houses(57, 400) + samples.great_houses(rng):
            with samples.moments(self):
                needs = group_needs(house)
            self.assertLessEqual(needs[0], need(house))
            for group, row in enumerate(house[2][1:], 1):
                self.assertLessEqual(needs[group], needs[row[0]])


class Kept(unittest.TestCase):
    def hold(self, house):
        broken = slow.broken(house)
        told = None if broken == [] else "capacity" if broken[0] is None else broken[0]
        self.assertEqual(first_broken(house), told)
        self.assertIs(is_kept(house), broken == [])
        return broken

    def test_just_as_needed_and_one_less_and_more(self):
        house = HOUSE[:2] + (((None, None), (0, 6), (0, None), (1, 3), (3, None)),) + HOUSE[3:]
        self.assertEqual(slow.need(house), 12)
        wide = (12, 0) + house[2:]
        self.assertEqual([spare(wide, group) for group in range(5)], [None, 0, None, 0, None])
        self.assertEqual([first_broken(wide), is_kept(wide)], [None, True])
        self.assertEqual([first_broken((11, 0) + house[2:]), first_broken((2, 9) + house[2:]), first_broken((2, 11) + house[2:])],
                         ["capacity", "capacity", None])
        for group, room in ((1, 5), (3, 2), (2, 0), (1, 0), (3, 0)):
            lesser = behind_wish(wide, ("room", group, room))
            self.assertEqual([first_broken(lesser), is_kept(lesser), spare(lesser, group) < 0], [group, False, True])
            self.assertIs(is_kept(behind_wish(wide, ("room", group, room + 9))), True)

    def test_several_at_once(self):
        house = (2, 0, ((None, None), (0, 1), (0, 0), (1, 1), (3, 0))) + HOUSE[3:]
        self.assertEqual(self.hold(house), [None, 1, 2, 3])
        self.assertEqual(self.hold((9, 9) + house[2:]), [1, 2, 3])
        self.assertEqual(first_broken((9, 9) + house[2:]), 1)
        self.assertEqual(first_broken((9, 9, ((None, None), (0, None), (0, None), (1, 1), (3, 0))) + HOUSE[3:]), 3)

    def test_group_zero_is_never_told(self):
        house = behind_wish(first_house(2, 0), ("begin", 0, 5, (((0, 1, 2, 3, 4), 5),)))
        self.assertEqual([first_broken(house), spare(house, 0), group_needs(house)], ["capacity", None, (5,)])

    def test_small_houses_near_their_limits(self):
        rng = random.Random(58)
        seen = {}
        for house in houses(58, 700):
            house = samples.with_limits(house, need(house), group_needs(house), rng)
            broken = self.hold(house)
            seen[tuple(broken[:2])] = True
            self.assertEqual(None in broken, need(house) > capacity(house))
        self.assertTrue({(), (None,), (1,), (None, 1), (1, 2)} <= set(seen), seen)

    def test_great_houses(self):
        rng = random.Random(59)
        for house in samples.great_houses(rng):
            needs, groups = need(house), group_needs(house)
            for _ in range(5):
                near = samples.with_limits(house, needs, groups, rng)
                with samples.moments(self):
                    told = [first_broken(near), is_kept(near)]
                broken = [group for group, row in enumerate(near[2]) if row[1] is not None and groups[group] > row[1]]
                first = "capacity" if needs > near[0] + near[1] else broken[0] if broken else None
                self.assertEqual(told, [first, first is None])


class Guarantees(unittest.TestCase):
    def test_no_deed_makes_the_need_of_a_group_greater(self):
        """[7], and [6]: behind rows of many deeds of anybody; a snapshot makes none greater either."""
        rng = random.Random(60)
        copies = 0
        for house in houses(60, 250) + samples.great_houses(rng)[::4]:
            for _ in range(10):
                step, later = samples.named_steps(rng, house, 1)[0]
                if step[0] in slow.DEEDS + ("snapshot",):
                    copies += step[0] == "write" and write_answer(house, step[1], step[2]) == "copy"
                    for less, more in zip(group_needs(later), group_needs(house)):
                        self.assertLessEqual(less, more)
                    self.assertTrue(is_kept(later) or not is_kept(house) or step[0] == "snapshot")
                    house = later if step[0] != "snapshot" else house
        self.assertGreater(copies, 20)

    def test_need_is_come_to_by_members_alone(self):
        """[7]: leaving_row, then reaching_row of the inside."""
        rng = random.Random(61)
        for house in houses(61, 300) + samples.great_houses(rng)[::4]:
            for group in range(len(house[2])):
                part = inside(house, group)
                last, answers = behind_row(house, leaving_row(house, group) + reaching_row(part))
                self.assertEqual(group_live(last, group), group_need(house, group))
                self.assertNotIn("refused", answers)

    def test_need_is_the_most_of_all_rows(self):
        """[6] and [7], all houses being gone through to which deeds lead."""
        rng = random.Random(62)
        held = 0
        while held < 80:
            house = samples.small_house(rng)
            met = slow.walk(house, 700) if sum(len(row[3]) for row in house[4]) > 0 else None
            if met is not None:
                held += 1
                self.assertEqual(need(house), max(live(later) for later in met))
                for group in range(len(house[2])):
                    self.assertEqual(group_need(house, group), max(slow.group_live(later, group) for later in met))

    def test_a_row_of_deeds_in_a_kept_house(self):
        rng = random.Random(63)
        for house in houses(63, 150):
            wide = (max(2, need(house)), 0, ((None, None),) + tuple(
                (row[0], many) for row, many in list(zip(house[2], group_needs(house)))[1:])) + house[3:]
            self.assertIs(is_kept(wide), True)
            for _ in range(8):
                step = samples.named_steps(rng, wide, 1)[0][0]
                if step[0] in slow.DEEDS:
                    wide = behind_deed(wide, step)[0]
                    self.assertIs(is_kept(wide), True)

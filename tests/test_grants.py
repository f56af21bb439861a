"""[25], with GRANTED of [2], and the guarantee [8]: grants."""

import random
import unittest

import samples
import slow
from pagesworn.cuts import least_cut, size_of_cut
from pagesworn.grants import grant_paper, is_grant_paper, is_granted
from pagesworn.inside import group_needs, inside
from pagesworn.need import live, need
from pagesworn.webs import web_of

PROCESSES = ((0, 0, 2, (((0, 1), 1),)), (1, 1, 2, (((0,), 1), ((0, 1), 1))), (3, 2, 1, (((0,), 2),)))
CELLS = ((7, "own", ((0, 0), (1, 0), (3, 0)), ((0, 0),)),)
HOUSE = (6, 1, ((None, None), (0, 3), (1, None), (2, 2)), (4, 1), PROCESSES, ((0, 1, ()),), CELLS, ((0, 1), (1, 1)))
WISH = ("move", 3, 3)
WORDS = set(slow.STEPS) - set(slow.DEEDS)


def wishes_of_all_sorts(rng, house):
    """Of each sort that there can be here a wish that names what is there."""
    found = {}
    for wish, _ in samples.named_wishes(rng, house, 40):
        found[wish[0]] = wish
    return [found[word] for word in sorted(found)]


class Granted(unittest.TestCase):
    def hold(self, house, wish):
        granted = is_granted(house, wish)
        paper = grant_paper(house, wish)
        self.assertIs(granted, paper is not None)
        self.assertEqual(grant_paper(house, wish), paper)
        if granted:
            self.assertIs(is_grant_paper(house, wish, paper), True)
        self.assertIs(is_grant_paper(house, wish, paper), granted)
        return granted

    def test_just_as_needed_and_one_less_and_more(self):
        """Each of the wishes, with capacity and each room by turns."""
        rng = random.Random(70)
        seen = {}
        for _ in range(60):
            house = samples.shared_house(rng)
            for wish in wishes_of_all_sorts(rng, house):
                behind = slow.behind(house, [wish])
                needs, groups = slow.need(behind), [slow.need(slow.inside(behind, group)) for group in range(len(behind[2]))]
                for at in [None] + list(range(1, len(groups))):
                    for more in (-1, 0, 1):
                        near = samples.near_limits(house, wish, needs, groups, at, more)
                        if near is not None:
                            self.assertIs(self.hold(*near), more >= 0, near)
                            self.assertTrue(slow.is_grant_paper(*near, grant_paper(*near)) or more < 0)
                            seen[wish[0], at is None, more] = True
        self.assertEqual({key for key in seen if key[0] != "group" or key[1]},
                         {(word, capacity, more) for word in WORDS for capacity in (True, False) for more in (-1, 0, 1)
                          if word != "group" or capacity})

    def test_small_houses(self):
        rng = random.Random(71)
        seen = []
        for _ in range(300):
            house = samples.any_house(rng)
            for wish, behind in samples.named_wishes(rng, house, 4):
                seen.append(self.hold(house, wish))
                self.assertIs(seen[-1], slow.broken(behind) == [])
        self.assertTrue(seen.count(True) > 100 and seen.count(False) > 100)

    def test_great_houses(self):
        rng = random.Random(72)
        for house in samples.great_houses(rng):
            for wish, behind in samples.named_wishes(rng, house, 6):
                needs, groups = need(behind), group_needs(behind)
                for more in (-1, 0):
                    near = samples.near_limits(house, wish, needs, groups, None, more)
                    with samples.moments(self):
                        granted = self.hold(*near)
                    self.assertIs(granted, more == 0)

    def test_the_paper_has_a_row_for_each_room(self):
        self.assertEqual([row[0] for row in grant_paper(HOUSE, WISH)], [None, 1, 3])
        self.assertEqual([row[0] for row in grant_paper(HOUSE, ("room", 1, None))], [None, 3])
        self.assertEqual([row[0] for row in grant_paper(HOUSE, ("room", 2, 3))], [None, 1, 2, 3])
        self.assertEqual([row[0] for row in grant_paper(HOUSE, ("group", 3, 0))], [None, 1, 3, 4])
        self.assertIsNone(grant_paper(HOUSE, ("room", 1, 1)))


class Papers(unittest.TestCase):
    def holds(self, house, wish, things):
        return samples.agreed(self, is_grant_paper, slow.is_grant_paper, (house, wish), things)

    def test_tuples_out_twice_and_out_of_order(self):
        paper = grant_paper(HOUSE, WISH)
        self.assertEqual(self.holds(HOUSE, WISH, [paper]), [True])
        bad = [paper[:at] + paper[at + 1:] for at in range(3)] + [paper + paper[-1:], paper[:1] + paper, paper[::-1],
               (paper[0], paper[2], paper[1]), (), paper[:1], list(paper), paper[0], None, paper + ((2, ((), (), ())),)]
        self.assertEqual(self.holds(HOUSE, WISH, bad), [False] * len(bad))

    def test_other_groups_and_kinds(self):
        paper = grant_paper(HOUSE, WISH)
        for group in (0, 2, 4, True, 1.0, "1", (1,), 10 ** 39):
            self.assertEqual(self.holds(HOUSE, WISH, [(paper[0], (group, paper[1][1]), paper[2])]), [False])
        for group in (0, False, 1, "", "capacity"):
            self.assertEqual(self.holds(HOUSE, WISH, [((group, paper[0][1]),) + paper[1:]]), [False])
        self.assertEqual(self.holds(HOUSE, WISH, [([None, paper[0][1]],) + paper[1:], ((None,),) + paper[1:],
                                                  (paper[0] + (0,),) + paper[1:], (paper[0][::-1],) + paper[1:]]), [False] * 4)

    def test_changed_and_odd_values(self):
        for wish in (WISH, ("slots", 2), ("group", 0, 4)):
            paper = grant_paper(HOUSE, wish)
            answers = self.holds(HOUSE, wish, samples.changed(paper))
            self.assertIn(False, answers)
            self.holds(HOUSE, wish, samples.odd_values())
        for wish in (("frames", 2), ("room", 1, 1)):
            self.assertEqual(set(self.holds(HOUSE, wish, samples.odd_values() + samples.changed(grant_paper(HOUSE, WISH)))), {False})

    def test_other_cuts(self):
        """Cuts that grant_paper does not tell, but that fit; cuts that are too great; cuts of another part."""
        rng = random.Random(73)
        seen = {}
        for _ in range(150):
            house = samples.any_house(rng)
            wide = (rng.randint(4, 9), rng.randint(0, 2)) + house[2:]
            for wish, behind in samples.named_wishes(rng, wide, 2):
                parts = [(None, behind)] + [(group, inside(behind, group)) for group, row in enumerate(behind[2]) if row[1] is not None]
                for _ in range(4):
                    paper = tuple((group, self.some_cut(rng, web_of(part))) for group, part in parts)
                    seen[self.holds(wide, wish, [paper])[0], paper == grant_paper(wide, wish)] = True
                if len(parts) > 1:
                    self.holds(wide, wish, [((None, least_cut(web_of(parts[1][1]))),) + paper[1:]])
                    self.holds(wide, wish, [paper[:1] + ((parts[1][0], least_cut(web_of(behind))),) + paper[2:]])
        self.assertTrue({(True, False), (True, True), (False, False)} <= set(seen))

    def some_cut(self, rng, web):
        """A cut, the least one or another one."""
        tickets, places, cells = least_cut(web)
        if rng.random() < 0.4:
            return (tickets, places, cells)
        tickets = tuple(index for index in range(len(web[0])) if rng.random() < 0.6)
        cells = tuple(index for index in range(len(web[2])) if rng.random() < 0.3)
        places = tuple(index for index, row in enumerate(web[1])
                       if row[2] not in cells and not set(tickets) & set(slow.held_by(web, index)))
        return (tickets, places, cells)

    def test_a_cut_just_great_enough_and_one_more(self):
        """The cut of all places bounds the flow, too: it fits exactly if there is room for it."""
        house = (7, 0, ((None, None),)) + HOUSE[3:4] + (tuple((row[0], 0) + row[2:] for row in PROCESSES),) + HOUSE[5:]
        web = web_of(house)
        cut = ((), tuple(range(len(web[1]))), ())
        size = size_of_cut(web, cut)
        self.assertGreater(size, size_of_cut(web, least_cut(web)))
        for frames in (live(house) + size - 1, live(house) + size, live(house) + size + 1):
            self.assertEqual(self.holds(house, ("frames", frames), [((None, cut),)]), [frames >= live(house) + size])

    def test_great_houses(self):
        rng = random.Random(74)
        for house in samples.great_houses(rng):
            wide = (10 ** 9 - 1, 0, tuple((above, None if room is None else 500) for above, room in house[2])) + house[3:]
            for wish, _ in samples.named_wishes(rng, wide, 2):
                with samples.moments(self):
                    paper = grant_paper(wide, wish)
                    for thing in [paper, None if paper is None else paper[1:]] + samples.odd_values():
                        is_grant_paper(wide, wish, thing)


class Guarantee(unittest.TestCase):
    def test_granted_exactly_if_no_row_of_deeds_leads_beyond(self):
        """[8], all houses being gone through to which deeds lead."""
        rng = random.Random(75)
        seen = []
        while min(seen.count(True), seen.count(False)) < 60:
            house = samples.small_house(rng)
            wish, behind = samples.named_wishes(rng, house, 1)[0]
            met = slow.walk(behind, 500)
            if met is not None:
                beyond = any(len(later[6]) > later[0] + later[1] for later in met)
                rooms = [(group, row[1]) for group, row in enumerate(behind[2]) if row[1] is not None]
                beyond = beyond or any(slow.group_live(later, group) > room for group, room in rooms for later in met)
                self.assertIs(is_granted(house, wish), not beyond)
                seen.append(beyond)

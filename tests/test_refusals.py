"""[26], with the guarantee [8]: refusals."""

import random
import unittest

import samples
import slow
from pagesworn.deeds import behind_row, read, write_answer
from pagesworn.forms import is_deed, places_of
from pagesworn.grants import grant_paper, is_grant_paper, is_granted
from pagesworn.inside import first_broken, group_live, group_needs, inside
from pagesworn.need import capacity, flow_of, live, need
from pagesworn.refusals import answer_to, is_refusal_paper, refusal_paper
from pagesworn.wishes import behind_wish

# Groups 1 and 3 (within 1) have members that share with 0 and 5, who are outside, and with both snapshots; 7 shares nothing.
PROCESSES = ((0, 0, 2, (((0, 1), 2),)), (1, 1, 3, (((0, 1, 2), 3),)), (4, 3, 2, (((0,), 1),)), (5, 2, 2, (((1,), 0),)),
             (7, 0, 1, (((0,), 1),)))
SNAPSHOTS = ((0, 2, ()), (2, 2, (1,)), (3, 1, ()))
CELLS = ((1, "common", ((1, 2), (5, 1)), ()), (3, "own", ((0, 0), (1, 0), (4, 0)), ((0, 0),)), (4, "own", ((4, 1),), ()),
         (5, "own", ((5, 0),), ((0, 1),)), (6, "own", ((7, 0),), ((3, 0),)), (8, "own", ((1, 1),), ((2, 0),)))
GROUPS = ((None, None), (0, 5), (0, 9), (1, None))
HOUSE = (9, 9, GROUPS, (8, 4), PROCESSES, SNAPSHOTS, CELLS, ((0, 1),))


class Beyond(unittest.TestCase):
    """What refusal_paper tells."""

    def hold(self, house, wish, behind):
        """The paper, against the words of [26]; tells its group, or "granted"."""
        paper = refusal_paper(house, wish)
        self.assertEqual(refusal_paper(house, wish), paper)
        self.assertIs(paper is None, is_granted(house, wish))
        self.assertEqual(answer_to(house, wish),
                         ("granted", grant_paper(house, wish)) if paper is None else ("refused", paper))
        if paper is None:
            return "granted"
        self.assertIs(is_refusal_paper(house, wish, paper), True)
        self.assertTrue(slow.is_refusal_paper(house, wish, paper))
        broken = first_broken(behind)
        self.assertEqual(paper[0], None if broken == "capacity" else broken)
        ahead = [] if paper[0] is None else self.parting(behind, paper[0])
        self.assertEqual(list(paper[1][:len(ahead)]), ahead)
        self.hold_writes(behind, paper, ahead)
        return paper[0]

    def parting(self, behind, group):
        inner = [row[0] for row in behind[4] if slow.within(behind, row[1], group)]
        met = [cell for cell in behind[6] if any(place[0] in inner for place in cell[2])]
        exits = sorted({place[0] for cell in met for place in cell[2]} - set(inner))
        return [("exit", number) for number in exits] + [
            ("forget", number) for number in sorted({reader[0] for cell in met for reader in cell[3]})]

    def hold_writes(self, behind, paper, ahead):
        """Just as few writes as are needed, each a copy of what its place shows."""
        group, writes = paper[0], paper[1][len(ahead):]
        last = behind_row(behind, tuple(ahead))[0]
        most = capacity(behind) if group is None else behind[2][group][1]
        many = live(last) if group is None else group_live(last, group)
        self.assertEqual(len(writes), max(0, most + 1 - many))
        for deed in writes:
            self.assertEqual(deed, ("write", deed[1], deed[2], read(last, deed[1], deed[2])))
            self.assertEqual(write_answer(last, deed[1], deed[2]), "copy")
            last = behind_row(last, (deed,))[0]
            many += 1
            self.assertEqual(live(last) if group is None else group_live(last, group), many)
        self.assertGreater(many, most)

    def test_beyond_capacity(self):
        self.assertEqual([live(HOUSE), need(HOUSE)], [6, 12])
        for frames, many in ((12, None), (11, 6), (10, 5), (8, 3), (6, 1), (5, 0), (4, 0), (2, 0)):
            house, wish = (99, 0) + HOUSE[2:], ("frames", frames)
            self.assertEqual(self.hold(house, wish, behind_wish(house, wish)), "granted" if many is None else None)
            if many is not None:
                paper = refusal_paper(house, wish)
                self.assertEqual([paper[0], len(paper[1])], [None, many])
        self.assertEqual(refusal_paper(HOUSE[:1] + (0,) + HOUSE[2:], ("frames", 3)), (None, ()))

    def test_beyond_a_room(self):
        ahead = (("exit", 0), ("exit", 5), ("forget", 0), ("forget", 2))
        self.assertEqual(group_needs(HOUSE)[1], 5)
        for room in range(5):
            paper = refusal_paper(HOUSE, ("room", 1, room))
            self.assertEqual([paper[0], paper[1][:4], len(paper[1])], [1, ahead, 4 + max(0, room - 3)])
            self.assertEqual(self.hold(HOUSE, ("room", 1, room), behind_wish(HOUSE, ("room", 1, room))), 1)
        self.assertIsNone(refusal_paper(HOUSE, ("room", 1, 5)))
        # Process 1 is outside of group 3, and shows what a member shows; the other snapshots are not in its way.
        self.assertEqual(refusal_paper(HOUSE, ("room", 3, 1)), (3, (("exit", 0), ("exit", 1), ("forget", 0))))
        self.assertEqual(refusal_paper(HOUSE, ("room", 2, 0)), (2, (("exit", 1), ("forget", 0))))

    def test_capacity_comes_first_and_then_the_least_group(self):
        tight = HOUSE[:2] + (((None, None), (0, 5), (0, 1), (1, None)),) + HOUSE[3:]
        self.assertEqual(first_broken(tight), 2)
        self.assertEqual(refusal_paper(tight, ("room", 1, 0))[0], 1)
        self.assertEqual(refusal_paper(tight, ("room", 3, 0))[0], 2)
        self.assertIsNone(refusal_paper(tight[:1] + (2,) + tight[2:], ("room", 1, 0))[0])

    def test_near_the_limits(self):
        """Capacity, or one room, is by so many less than what the house behind the wish needs."""
        rng = random.Random(80)
        seen = {}
        for at, house, wish in samples.cases_near_limits(rng, 250, 3):
            told = self.hold(house, wish, behind_wish(house, wish))
            self.assertIn(told, (at, "granted"))
            seen[wish[0], told if told in (None, "granted") else "group"] = True
        for word in set(slow.STEPS) - set(slow.DEEDS):
            self.assertIn((word, None), seen)
            self.assertTrue((word, "group") in seen or word == "group", word)

    def test_small_and_great_houses(self):
        rng = random.Random(81)
        told = {}
        for _ in range(400):
            house = samples.any_house(rng)
            for wish, behind in samples.named_wishes(rng, house, 3):
                told[self.hold(house, wish, behind)] = True
        self.assertTrue({None, "granted", 1, 2} <= set(told))
        for house in samples.great_houses(rng):
            for wish, behind in samples.named_wishes(rng, house, 6):
                needs, groups = need(behind), group_needs(behind)
                for at, more in ((None, -1), (None, -9), (None, 0), (rng.randint(1, 5), -1), (rng.randint(1, 5), -5)):
                    near = samples.near_limits(house, wish, needs, groups, at, more)
                    if near is not None:
                        with samples.moments(self):
                            refusal_paper(*near)
                            answer_to(*near)
                        self.hold(*near, behind_wish(*near))

    def test_no_row_beyond_capacity_is_shorter(self):
        """[8], all houses being gone through to which deeds lead."""
        rng = random.Random(82)
        held = 0
        while held < 60:
            house = samples.small_house(rng)
            wish, behind = samples.named_wishes(rng, house, 1)[0]
            paper = refusal_paper(house, wish)
            met = slow.walk(behind, 400) if paper is not None and paper[0] is None else None
            if met is not None:
                held += 1
                self.assertEqual(len(paper[1]), min(met[later] for later in met if live(later) > capacity(behind)))


class Papers(unittest.TestCase):
    WISH = ("room", 1, 4)
    ROW = (("exit", 0), ("exit", 5), ("forget", 0), ("forget", 2))

    def holds(self, house, wish, things):
        return samples.agreed(self, is_refusal_paper, slow.is_refusal_paper, (house, wish), things)

    def test_writes_that_are_needed(self):
        """Members hold just four cells behind the row; a fifth one comes by a copy of theirs alone."""
        self.assertEqual(self.holds(HOUSE, self.WISH, [(1, self.ROW)]), [False])
        for write, answer in ((("write", 1, 0, 3), True), (("write", 4, 0, -9), True), (("write", 1, 1, 0), False),
                              (("write", 7, 0, 0), False), (("write", 1, 2, 5), False), (("write", 4, 1, 5), False)):
            self.assertEqual(self.holds(HOUSE, self.WISH, [(1, self.ROW + (write,)), (1, (write,) + self.ROW)])[0], answer)

    def test_a_deed_more_out_and_exchanged(self):
        row = self.ROW + (("write", 1, 0, 3),)
        self.assertEqual(self.holds(HOUSE, self.WISH, [(1, row), (1, row + (("exit", 7),)), (1, row + (("drop", 4, 0),))]),
                         [True, True, False])
        self.assertIn(True, self.holds(HOUSE, self.WISH, [(1, row[:at] + row[at + 1:]) for at in range(5)] + [(1, row[::-1])]))
        others = [("exit", 7), ("exit", 4), ("forget", 3), ("drop", 5, 0), ("lessen", 1, (0, 1, 2), 0), ("write", 0, 1, 1)]
        answers = self.holds(HOUSE, self.WISH, [(1, row[:at] + (deed,) + row[at + 1:]) for at in range(5) for deed in others])
        self.assertIn(False, answers)

    def test_what_is_not_there(self):
        row = self.ROW + (("write", 1, 0, 3),)
        for deed in (("exit", 0), ("exit", 9), ("forget", 1), ("forget", 0), ("drop", 0, 0), ("drop", 1, 7), ("write", 1, 3, 0),
                     ("write", 3, 0, 0), ("lessen", 1, (0, 1), 0), ("lessen", 1, (0, 1, 2), 3), ("lessen", 9, (0,), 0)):
            self.assertTrue(is_deed(deed))
            self.assertEqual(self.holds(HOUSE, self.WISH, [(1, row + (deed,))]), [False])
        self.assertEqual(self.holds(HOUSE, self.WISH, [(1, row + (("lessen", 1, (0, 1, 2), 2),))]), [True])

    def test_no_deeds(self):
        row = self.ROW + (("write", 1, 0, 3),)
        for step in (("read", 1, 0), ("snapshot", 1), ("frames", 2), ("slots", 0), ("fork", 1, 1, ()), ("room", 1, 0), ("exit", True),
                     ["exit", 7], ("exit", 7, 0), ("exit",), (), None, "exit", ("write", 1, 0, True), ("lessen", 1, [0, 1, 2], 2)):
            self.assertEqual(self.holds(HOUSE, self.WISH, [(1, row + (step,)), (1, (step,) + row)]), [False, False])

    def test_refused_writes_among_them(self):
        row = self.ROW + (("write", 1, 0, 3),)
        in_place = ("write", 5, 1, 4)
        self.assertEqual(write_answer(HOUSE, 5, 1), "place")
        spent = (("lessen", 0, (0, 1), 0), ("write", 0, 0, 9))
        self.assertEqual(behind_row(HOUSE, spent)[1], ("done", "refused"))
        self.assertEqual(self.holds(HOUSE, self.WISH, [(1, spent + row), (1, spent[::-1] + row), (1, (in_place,) + row)]),
                         [True, True, True])

    def test_other_groups(self):
        row = self.ROW + (("write", 1, 0, 3),)
        for group in (None, 0, 2, 3, 4, -1, True, "1", (1,), [1], 10 ** 39, ("capacity",), "capacity"):
            self.assertEqual(self.holds(HOUSE, self.WISH, [(group, row)]), [False])
        # Group 2 has a room, but not so little; group 3 has none, however much it holds; group 0 never has one.
        self.assertEqual(self.holds(HOUSE, ("room", 2, 0), [(2, (("exit", 1), ("forget", 0))), (2, (("exit", 1),)),
                                                            (3, (("exit", 1), ("forget", 0)))]), [True, True, False])
        self.assertEqual(self.holds(HOUSE, ("room", 1, None), [(1, row), (0, row)]), [False, False])

    def test_capacity(self):
        wish = ("frames", 2)
        house = HOUSE[:1] + (4,) + HOUSE[2:]
        self.assertEqual(self.holds(house, wish, [(None, ()), (None, (("write", 0, 0, 1),)), (0, (("write", 0, 0, 1),)),
                                                  (None, (("write", 0, 0, 1), ("exit", 7), ("forget", 3)))]), [False, True, False, False])
        self.assertEqual(self.holds(HOUSE[:1] + (3,) + HOUSE[2:], wish, [(None, ()), (1, ()), (2, ())]), [True, False, False])

    def test_changed_and_odd_values(self):
        row = self.ROW + (("write", 1, 0, 3),)
        answers = self.holds(HOUSE, self.WISH, samples.changed((1, row)) + samples.odd_values())
        self.assertTrue(True in answers and answers.count(False) > 1000)
        for wish in (("slots", 8), ("frames", 2)):
            self.holds(HOUSE, wish, samples.odd_values() + [(None, odd) for odd in samples.odd_values()])
        for thing in ([1, row], (1, list(row)), (1,), (1, row, ()), row, ((1, row),), {1: row}):
            self.assertEqual(self.holds(HOUSE, self.WISH, [thing]), [False])

    def test_any_rows(self):
        rng = random.Random(83)
        seen = {}
        for _ in range(300):
            house = samples.any_house(rng)
            house = (rng.choice((2, 3)), 0, tuple((above, None if above is None else rng.choice((None, 0, 1))) for above, _ in house[2])
                     ) + house[3:]
            wish = samples.named_wishes(rng, house, 1)[0][0]
            for group in [None] + list(range(len(house[2]))):
                row = tuple(samples.random_step(rng, house) for _ in range(rng.randint(0, 3)))
                deeds = tuple(deed for deed in row if is_deed(deed))
                answers = self.holds(house, wish, [(group, row), (group, deeds)])
                seen[group is None, answers[1]] = True
        self.assertEqual(len(seen), 4)

    def test_great_houses(self):
        rng = random.Random(84)
        for house in samples.great_houses(rng):
            row = tuple(("drop",) + place for place in places_of(house))
            row += tuple(("exit", held[0]) for held in house[4]) + tuple(("forget", held[0]) for held in house[5])
            for thing in [(None, row), (1, row), (None, row + row)] + samples.odd_values():
                with samples.moments(self):
                    is_refusal_paper(house, ("slots", 0), thing)
            self.holds(house, ("slots", 0), [(None, ()), (None, row[:9]), (1, ()), (1, row[-9:])])


class Both(unittest.TestCase):
    def test_there_never_is_a_paper_of_both_sorts(self):
        """[8]: if the wish is granted, no row to any house is a refusal paper; otherwise no cuts are a grant paper."""
        rng = random.Random(85)
        told = []
        while min(told.count("granted"), told.count("refused")) < 80:
            house = samples.any_house(rng)
            wish, behind = samples.named_wishes(rng, house, 1)[0]
            word, paper = answer_to(house, wish)
            told.append(word)
            self.assertIs(is_grant_paper(house, wish, paper), word == "granted")
            self.assertIs(is_refusal_paper(house, wish, paper), word == "refused")
            for _ in range(6):
                deeds = tuple(step for step, _ in samples.named_steps(rng, behind, 3) if is_deed(step))
                for group in [None] + list(range(len(behind[2]))):
                    if is_refusal_paper(house, wish, (group, deeds)):
                        self.assertEqual(word, "refused")
            if word == "refused":
                self.assertIsNone(grant_paper(house, wish))
                group = paper[0]
                part = behind if group is None else inside(behind, group)
                self.assertGreater(live(part) + flow_of(part), capacity(behind) if group is None else behind[2][group][1])

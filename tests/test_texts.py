"""[33] and [34]: texts of houses and of scripts."""

import random
import unittest

import samples
import slow
from pagesworn.errors import NoCommand, NoText, Wrong
from pagesworn.forms import is_deed, is_house, is_wish
from pagesworn.texts import deed_line, house_text, read_deed, read_house, read_script, script_text
from pagesworn.wishes import first_house

FORTY = "1" + "0" * 39
NO_NUMBERS = ["", "00", "01", "-0", "-1", "+1", "1.0", "x", "1x", "1_0", "0x1", "none", "one", "1,", ",1", "1:", "--1", "1" * 41, "0" * 2,
              FORTY + "0", "\t1", "1\t", "True", "s1", "~", "\u0663", "\u00b2"]
NO_CONTENTS = ["-0", "--1", "-", "00", "-01", "+1", "1-", "-" + "1" * 41, "1" * 41, "none", "x", "1,2", "- 1", "-x"]


def shuffled(rng, things):
    things = list(things)
    rng.shuffle(things)
    return things


def blank(rng, words):
    """A line of these words with blanks wherever they mean nothing."""
    gaps = [" " * rng.choice((1, 1, 1, 2, 5)) for _ in words]
    line = "".join(gap + word for gap, word in zip(gaps, words))
    return line[1:] * (rng.random() < 0.6) or line + " " * rng.randint(0, 3)


def lot_word(lot):
    return ",".join(str(number) for number in lot)


def house_rows(house, rng=None):
    """The words of the lines of a house; of lots, tickets, pages, places and readers in any order if rng is told."""
    mixed = (lambda things: shuffled(rng, things)) if rng else list

    def tickets(forest):
        return mixed(f"{lot_word(mixed(lot))}:{number}" for lot, number in forest)

    def places(held):
        return [f"{process}.{page}" for process, page in held]

    rows = [["room", str(house[0]), str(house[1])], ["born", str(house[3][0]), str(house[3][1])]]
    rows += [["group", str(above), "none" if room is None else str(room)] for above, room in house[2][1:]]
    rows += [["process", str(number), str(group), str(many)] + tickets(forest) for number, group, many, forest in house[4]]
    rows += [["snapshot", str(number), str(many)] + mixed(str(page) for page in zeros) for number, many, zeros in house[5]]
    rows += [[sort, str(content)] + mixed(places(held) + ["s" + word for word in places(seen)]) for content, sort, held, seen in house[6]]
    return rows + [["zeros"] + mixed(places(house[7]))]


def houses(seed, many):
    rng = random.Random(seed)
    found = [first_house(2, 0), first_house(10 ** 39, int(FORTY))] + [samples.any_house(rng) for _ in range(many)]
    return found + samples.great_houses(rng)


class Texts(unittest.TestCase):
    def raises(self, error, fields, function, *arguments):
        with self.subTest(arguments=arguments), self.assertRaises(error) as caught:
            function(*arguments)
        self.assertEqual(vars(caught.exception), fields)
        self.assertIs(type(list(vars(caught.exception).values())[0]), type(list(fields.values())[0]))

    def not_strings(self, function):
        for value in samples.odd_values() + [first_house(2, 0), [""], ("room 2 0",), b"room 2 0"]:
            if not isinstance(value, str):
                self.raises(Wrong, {"place": 0}, function, value)


class HouseTexts(Texts):
    def test_the_text_of_a_house(self):
        self.assertEqual(house_text(first_house(3, 0)), "room 3 0\nborn 0 0\nzeros")
        house = (4, 2, ((None, None), (0, 3), (1, None), (0, 0)), (7, 5), ((0, 2, 9, ()), (6, 0, 3, (((0,), 1), ((0, 1, 12), 5), ((3,), 0)))),
                 ((2, 4, ()), (4, 3, (0, 2))), ((-12, "common", ((0, 1),), ()), (0, "own", (), ((2, 0), (2, 3))),
                                                (5, "own", ((0, 0), (6, 0)), ()), (5, "own", ((6, 1),), ((4, 1),))), ((0, 2), (6, 2)))
        self.assertTrue(is_house(house))
        self.assertEqual(house_text(house), "room 4 2\nborn 7 5\ngroup 0 3\ngroup 1 none\ngroup 0 0\nprocess 0 2 9\n"
                         "process 6 0 3 0:1 0,1,12:5 3:0\nsnapshot 2 4\nsnapshot 4 3 0 2\ncommon -12 0.1\nown 0 s2.0 s2.3\n"
                         "own 5 0.0 6.0\nown 5 6.1 s4.1\nzeros 0.2 6.2")
        self.assertEqual(read_house(house_text(house)), house)

    def test_there_and_back(self):
        for house in houses(180, 300):
            with samples.moments(self):
                text = house_text(house)
                self.assertEqual(read_house(text), house)
            self.assertEqual(text, "\n".join(" ".join(words) for words in house_rows(house)))

    def test_other_orders_more_blanks_and_empty_lines(self):
        rng = random.Random(181)
        for house in houses(182, 200):
            rows = house_rows(house, rng)
            groups = [row for row in rows if row[0] == "group"]
            others = shuffled(rng, [row for row in rows if row[0] != "group"] + [[]] * rng.randint(0, 3))
            for row in groups[::-1]:
                others.insert(rng.randint(0, min([at for at, other in enumerate(others) if other[:1] == ["group"]], default=len(others))), row)
            self.assertEqual([row for row in others if row[:1] == ["group"]], groups)
            self.assertEqual(read_house("\n".join(blank(rng, words) for words in others)), house)

    def test_lines_of_no_form(self):
        house = slow.behind(first_house(9, 9), [("group", 0, None), ("begin", 1, 4, (((0, 1), 1),)), ("snapshot", 0), ("write", 0, 0, 5)])
        lines = house_text(house).split("\n")
        self.assertEqual(read_house("\n".join(lines)), house)
        wrong = ["rooms 2 0", "Room 2 0", "room", "room 2", "room 2 0 0", "born 1", "born 1 1 1", "born", "group", "group 0", "group 0 1 1",
                 "group none 1", "group 0 None", "process", "process 0", "process 0 0", "process 0 0 x", "process 0 0 1 0", "process 0 0 1 :1",
                 "process 0 0 1 0:", "process 0 0 1 0:1:1", "process 0 0 1 0,:1", "process 0 0 1 ,0:1", "process 0 0 1 0,,1:1", "process 0 0 1 none",
                 "process 0 0 1 0.1", "process 0 0 1 0 :1", "snapshot", "snapshot 0", "snapshot 0 1 none", "snapshot 0 1 0,1", "snapshot 0 1 0.1",
                 "own", "own 0.0", "own 5 0", "own 5 0.", "own 5 .0", "own 5 0.0.0", "own 5 s", "own 5 s0", "own 5 s0.", "own 5 s.0", "own 5 ss0.0",
                 "own 5 0.s0", "own 5 S0.0", "own 5 0.0,", "own 5 s 0.0", "common", "common 5 s0.0", "common 5 0.0 s0.0", "common 0.0", "common 5 x",
                 "zeros 0", "zeros s0.0", "zeros none", "zeros 0.0,0.1", "zero", "0.0", "-", "own5 0.0", "room2 0", "zeros\t0.0", "none", "read 0 0",
                 "begin 0 1"]
        for word in NO_NUMBERS:
            if word:
                wrong += [f"room {word} 0", f"room 2 {word}", f"born {word} 0", f"born 0 {word}", f"group {word} 0", f"process {word} 0 1",
                          f"process 0 {word} 1", f"process 0 0 {word}", f"process 0 0 1 {word}:1", f"process 0 0 1 0:{word}", f"process 0 0 1 0,{word}:1",
                          f"snapshot {word} 1", f"snapshot 0 {word}", f"snapshot 0 1 {word}", f"own 1 0.{word}", f"own 1 {word}.0", f"own 1 s{word}.0",
                          f"zeros {word}.0", f"common 1 {word}.1"]
                wrong += [f"group 0 {word}"] if word != "none" else []
        wrong.remove("own 1 s1.0")
        for word in NO_CONTENTS:
            wrong += [f"own {word} 0.0", f"common {word} 0.0"]
        for line in wrong:
            for at in (0, 3, len(lines)):
                text = "\n".join(lines[:at] + [line] + lines[at:] + ["nothing"])
                self.raises(NoText, {"line": at}, read_house, text)
                self.raises(NoText, {"line": at + 2}, read_house, "\n  \n" + text)

    def test_a_second_one_of_three_lines(self):
        lines = house_text(first_house(2, 0)).split("\n")
        for line in ("room 2 0", "born 0 0", "zeros", "room 9 9", "zeros 0.0", "  born   5  5"):
            self.raises(NoText, {"line": 3}, read_house, "\n".join(lines + [line, "x"]))
        self.raises(NoText, {"line": 1}, read_house, "\n".join(["zeros", "zeros", "room", ""]))
        self.raises(NoText, {"line": 2}, read_house, "room 2 0\nborn 0 0\nroom 2 x\nroom 2 0")

    def test_one_of_three_lines_lacks(self):
        lines = ["room 2 0", "born 0 0", "zeros"]
        for at in range(3):
            left = lines[:at] + lines[at + 1:]
            self.raises(NoText, {"line": 2}, read_house, "\n".join(left))
            self.raises(NoText, {"line": 5}, read_house, "\n".join(["", left[0], "", left[1], " "]))
        self.raises(NoText, {"line": 1}, read_house, "")
        self.raises(NoText, {"line": 3}, read_house, "\n  \n")

    def test_what_is_shown_is_no_house(self):
        """Each line has its form; all of them together are the fault."""
        base = ["room 2 1", "born 2 1", "group 0 3", "process 0 1 3 0,1:2", "process 1 0 2", "snapshot 0 2 1", "own 5 0.0 1.0 s0.0", "zeros 0.1"]
        self.assertTrue(is_house(read_house("\n".join(base))))
        changes = {0: ["room 1 0", "room 0 5"], 1: ["born 1 1", "born 0 1", "born 2 0"], 2: ["group 1 3", "group 2 none", f"group {FORTY} 1"],
                   3: ["process 0 2 3", "process 1 0 3", "process 0 0 0", "process 0 0 3 0:1 0:1", "process 0 0 3 0:1 0:2", "process 0 0 3 0,0:1",
                       "process 0 0 3 0,1:1 1,2:1", "process 0 0 3 1,0,1:2", "process 2 0 3"],
                   4: ["process 0 1 3 0,1:2", "process 1 0 0"],
                   5: ["snapshot 1 2", "snapshot 0 0", "snapshot 0 2 2", "snapshot 0 2 1 1", "snapshot 0 2 0"],
                   6: ["own 5", "common 5", "own 5 0.0 0.0", "own 5 0.0 s0.0 s0.0", "own 5 0.0 s0.1", "own 5 0.1", "own 5 2.0", "own 5 1.2", "own 5 0.0 s1.0",
                       "own 5 0.0 s0.2"],
                   7: ["zeros 0.1 0.1", "zeros 0.0", "zeros 1.2", "zeros 2.0", "zeros 0.3"]}
        for at, lines in changes.items():
            for line in lines:
                text = "\n".join(base[:at] + [line] + base[at + 1:])
                self.raises(NoText, {"line": 8}, read_house, text)
                self.raises(NoText, {"line": 10}, read_house, "\n" + text + "\n  ")
        for line in ("own 5 0.0", "common 1 0.1", "own 6", "process 1 0 2", "snapshot 0 2 1", "process 0 1 3 0,1:2"):
            self.raises(NoText, {"line": 9}, read_house, "\n".join(base + [line]))

    def test_numbers_of_forty_digits(self):
        nines = "9" * 40
        text = f"room {FORTY} {nines}\nborn {nines} 1\ngroup 0 {nines}\nprocess 7 1 {nines} 0,{FORTY}:{nines}\nown -{nines} 7.{FORTY}\nzeros"
        house = read_house(text)
        self.assertEqual([house[0], house[1], house[3], house[6]],
                         [int(FORTY), int(nines), (int(nines), 1), ((-int(nines), "own", ((7, int(FORTY)),), ()),)])
        self.assertEqual(house_text(house), text)

    def test_no_string(self):
        self.not_strings(read_house)


class Steps(Texts):
    LINES = {"write 1 0 -9": ("write", 1, 0, -9), "write 0 2 0": ("write", 0, 2, 0), "drop 0 3": ("drop", 0, 3), "exit 12": ("exit", 12),
             "lessen 0 0,1 3": ("lessen", 0, (0, 1), 3), "lessen 2 7 0": ("lessen", 2, (7,), 0), "forget 0": ("forget", 0),
             "begin 0 0": ("begin", 0, 0, ()), "begin 1 2 0:1 0,1:2": ("begin", 1, 2, (((0,), 1), ((0, 1), 2))), "more 0 1": ("more", 0, 1),
             "raise 3": ("raise", 3, ()), "raise 3 5,6:0": ("raise", 3, (((5, 6), 0),)),
             "fork 0 1 0:1 0,1:2": ("fork", 0, 1, (((0,), 1), ((0, 1), 2))), "fork 0 0": ("fork", 0, 0, ()),
             "common 0,2 1": ("common", (0, 2), 1), "common 3 9": ("common", (3,), 9), "send 0 1 0": ("send", 0, 1, 0), "snapshot 4": ("snapshot", 4),
             "back 0 1": ("back", 0, 1), "group 0 none": ("group", 0, None), "group 1 5": ("group", 1, 5), "move 0 1": ("move", 0, 1),
             "room 1 none": ("room", 1, None), "room 2 0": ("room", 2, 0), "frames 2": ("frames", 2), "slots 0": ("slots", 0), "read 1 0": ("read", 1, 0)}

    def test_all_words_there_and_back(self):
        self.assertEqual({line.split()[0] for line in self.LINES}, set(slow.STEPS) | {"read"})
        for line, step in self.LINES.items():
            self.assertEqual(read_deed(line), step)
            self.assertEqual(deed_line(step), line)
            self.assertTrue(is_deed(step) or is_wish(step) or step[0] == "read")

    def test_drawn_steps(self):
        rng = random.Random(183)
        for house in houses(184, 150):
            for _ in range(10):
                step = samples.random_step(rng, house)
                self.assertEqual(read_deed(deed_line(step)), step)
                words = self.mixed(rng, step)
                self.assertEqual(read_deed(blank(rng, words)), step)

    def mixed(self, rng, step):
        """The words of a step, with the numbers of lots and the tickets in any order."""
        words = [step[0]]
        for part in step[1:]:
            if isinstance(part, tuple) and all(isinstance(item, int) for item in part) and part:
                words.append(lot_word(shuffled(rng, part)))
            elif isinstance(part, tuple):
                words += shuffled(rng, [f"{lot_word(shuffled(rng, lot))}:{number}" for lot, number in part])
            else:
                words.append("none" if part is None else str(part))
        return words

    def test_other_orders(self):
        self.assertEqual(read_deed("  fork 0   1 1,0:2 0:1 "), ("fork", 0, 1, (((0,), 1), ((0, 1), 2))))
        self.assertEqual(read_deed("lessen 0 9,10,1 3"), ("lessen", 0, (1, 9, 10), 3))
        self.assertEqual(read_deed("common 10,9 2"), ("common", (9, 10), 2))
        self.assertEqual(deed_line(("raise", 0, (((2,), 1), ((10,), 1)))), "raise 0 2:1 10:1")
        self.assertEqual(read_deed("raise 0 10:1 2:1"), ("raise", 0, (((2,), 1), ((10,), 1))))

    def test_lines_that_show_none(self):
        wrong = ["", " ", "   ", "writes 0 0 1", "Write 0 0 1", "write", "write 0 0", "write 0 0 1 1", "write 0 0 none", "write 0,1 0 1", "write 0 0 1,2",
                 "write 0 0 --1", "write0 0 1", "drop 0", "drop 0 0 0", "exit", "exit 0 0", "exit none", "lessen 0 0,0 1", "lessen 0 0,1,0 1",
                 "lessen 0 none 1", "lessen 0 0,1", "lessen 0 0,1 1 1", "lessen 0 0:1 1", "lessen 0 0, 1", "forget", "forget -1", "begin", "begin 0",
                 "begin 0 1 none", "begin 0 1 0", "begin 0 1 0:1 0:1", "begin 0 1 0:1 0:2", "begin 0 1 0,0:1", "begin 0 1 0,1:1 1,2:1", "begin 0 1 :1",
                 "begin none 1", "more 0 0", "more 0", "more 0 1 1", "more 0 none", "raise", "raise 0 1", "raise 0 1:1:1", "raise none", "raise 0 0,1:1 1,0:2",
                 "fork 0", "fork", "fork 0 0 0 0:1", "fork 0 none", "common 0,2 0", "common none 1", "common 0,0 1", "common 0 1 1", "common 0", "common 1",
                 "send 0 1", "send 0 1 2 3", "snapshot", "snapshot 0 0", "back 0", "back 0 0 0", "group 0", "group none none", "group none 0", "group 0 1 1",
                 "group 0 None", "move 0", "move 0 none", "room 0 1", "room 0 none", "room 1", "room none 1", "room 1 x", "frames 1", "frames 0", "frames",
                 "frames none", "frames 2 2", "slots", "slots none", "slots -1", "slots 0 0", "read 0", "read 0 0 0", "read", "read none 0", "read 0 -1",
                 "undo", "redo", "need", "why", "groups", "house", "give fork 0 0", "most 0 0", "room 1 0\n", "\nslots 0", "slots 0\nslots 0",
                 "read 0 0\n", "slots\t0", "born 0 0", "process 0 0 1", "own 5 0.0", "zeros", "0 write 0 1", "slots 0:1", "none", "slots 0 none"]
        for line, step in self.LINES.items():
            words = line.split(" ")
            wrong += [line + " x", line + " 0.0", line.upper(), line + " none", "x " + line]
            if step[0] not in ("begin", "raise", "fork"):
                wrong += [line + " 0", line + " 0:1"]
            if step[0] not in ("begin", "raise", "fork") or len(words) <= 3:
                wrong.append(" ".join(words[:len(words) - 1]) if step[0] != "raise" or len(words) == 2 else "raise")
            for at in range(1, len(words)):
                for word in NO_NUMBERS:
                    other = words[:at] + [word] + words[at + 1:]
                    if not (word == "-1" and step[0] == "write" and at == 3) and not (word == "none" and step[0] in ("group", "room") and at == 2):
                        if not (word == "" and (step[0] in ("begin", "fork") and at > 2 or step[0] == "raise" and at > 1)):
                            wrong.append(" ".join(other))
        wrong += [f"write 0 0 {word}" for word in NO_CONTENTS]
        for line in wrong:
            self.raises(NoCommand, {"line": line}, read_deed, line)

    def test_numbers_of_forty_digits(self):
        nines = "9" * 40
        self.assertEqual(read_deed(f"write {nines} {FORTY} -{nines}"), ("write", int(nines), int(FORTY), -int(nines)))
        self.assertEqual(deed_line(("write", 0, 0, -int(nines))), "write 0 0 -" + nines)
        self.raises(NoCommand, {"line": f"write 0 0 -{nines}0"}, read_deed, f"write 0 0 -{nines}0")
        self.raises(NoCommand, {"line": f"slots {nines}0"}, read_deed, f"slots {nines}0")

    def test_a_long_line(self):
        forest = tuple(((page,), page) for page in range(0, 480))
        with samples.moments(self):
            self.assertEqual(read_deed(deed_line(("raise", 0, forest))), ("raise", 0, forest))

    def test_no_string(self):
        self.not_strings(read_deed)


class Scripts(Texts):
    def test_there_and_back(self):
        rng = random.Random(185)
        self.assertEqual([script_text(()), read_script(""), read_script(" \n\n  ")], ["", (), ()])
        self.assertEqual(script_text(tuple(Steps.LINES.values())), "\n".join(Steps.LINES))
        for house in houses(186, 60):
            script = tuple(samples.random_step(rng, house) for _ in range(rng.randint(0, 12))) + (("read", 0, 1),)
            text = script_text(script)
            self.assertEqual(text, "\n".join(deed_line(step) for step in script))
            self.assertEqual(read_script(text), script)
            lines = [blank(rng, line.split(" ")) for line in text.split("\n")]
            for _ in range(rng.randint(0, 3)):
                lines.insert(rng.randint(0, len(lines)), rng.choice(("", "  ")))
            self.assertEqual(read_script("\n".join(lines)), script)

    def test_the_first_line_that_shows_none(self):
        for text, line in (("x", 0), ("slots 0\n\nslots", 2), ("\n\n  exit 0 0\nexit", 2), ("read 0 0\nwrite 0 0\nslots 0", 1), ("slots 0\nundo", 1),
                           ("slots 0\n" * 9 + "raise 0 0:1 0:1", 9), ("room 1 0\nroom 0 1", 1)):
            self.raises(NoText, {"line": line}, read_script, text)

    def test_no_string(self):
        self.not_strings(read_script)

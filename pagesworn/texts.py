"""Texts of houses and of scripts, and what they show."""

from pagesworn.errors import NoCommand, NoText, Wrong
from pagesworn.forms import DEED_KINDS, WISH_KINDS, is_deed, is_house, is_wish

MOST_DIGITS = 40
READ_KINDS = ("number", "number")


def words_of(line):
    """The list of the words of a line."""
    return [word for word in line.split(" ") if word != ""]


def rows_of(text):
    """The list of the tuples (index, words) of all lines of a text that have words."""
    rows = [(index, words_of(line)) for index, line in enumerate(text.split("\n"))]
    return [row for row in rows if row[1] != []]


def number_in(word):
    """The number that a word shows."""
    if not word.isascii() or not word.isdigit() or len(word) > MOST_DIGITS or (word[0] == "0" and word != "0"):
        raise NoCommand(word)
    return int(word)


def content_in(word):
    """The content that a word shows."""
    if not word.startswith("-"):
        return number_in(word)
    if word == "-0":
        raise NoCommand(word)
    return -number_in(word[1:])


def room_in(word):
    """The room that a word shows."""
    return None if word == "none" else number_in(word)


def lot_in(word):
    """The numbers that a word shows, in order; perhaps they are no lot, as one comes twice."""
    return tuple(sorted([number_in(part) for part in word.split(",")]))


def two_parts(word, sign):
    """The two parts of a word on both sides of a sign."""
    parts = word.split(sign)
    if len(parts) != 2:
        raise NoCommand(word)
    return parts


def ticket_in(word):
    """The ticket that a word shows."""
    lot, number = two_parts(word, ":")
    return (lot_in(lot), number_in(number))


def place_in(word):
    """The place that a word shows."""
    process, page = two_parts(word, ".")
    return (number_in(process), number_in(page))


def forest_in(words):
    """The tickets that words show, in order."""
    return tuple(sorted([ticket_in(word) for word in words]))


def places_in(words):
    """The places that words show, in order."""
    return tuple(sorted([place_in(word) for word in words]))


def numbers_in(words, many):
    """The tuple of the numbers that the first words show, so many of them."""
    if len(words) < many:
        raise NoCommand(words)
    return tuple([number_in(word) for word in words[:many]])


def pair_row(words):
    """What the words of a line "room" or "born" show."""
    if len(words) != 2:
        raise NoCommand(words)
    return numbers_in(words, 2)


def group_row(words):
    """What the words of a line "group" show."""
    if len(words) != 2:
        raise NoCommand(words)
    return (number_in(words[0]), room_in(words[1]))


def process_row(words):
    """What the words of a line "process" show."""
    return numbers_in(words, 3) + (forest_in(words[3:]),)


def snapshot_row(words):
    """What the words of a line "snapshot" show."""
    return numbers_in(words, 2) + (tuple(sorted([number_in(word) for word in words[2:]])),)


def own_row(words):
    """What the words of a line "own" show."""
    if words == []:
        raise NoCommand(words)
    readers = [word[1:] for word in words[1:] if word.startswith("s")]
    places = [word for word in words[1:] if not word.startswith("s")]
    return (content_in(words[0]), "own", places_in(places), places_in(readers))


def common_row(words):
    """What the words of a line "common" show."""
    if words == []:
        raise NoCommand(words)
    return (content_in(words[0]), "common", places_in(words[1:]), ())


ROWS = {
    "room": pair_row,
    "born": pair_row,
    "group": group_row,
    "process": process_row,
    "snapshot": snapshot_row,
    "own": own_row,
    "common": common_row,
    "zeros": places_in,
}
ONCE = ("room", "born", "zeros")


def house_row(words):
    """What a line of the text of a house shows."""
    if words[0] not in ROWS:
        raise NoCommand(words)
    action = ROWS[words[0]]
    return action(words[1:])


def house_rows(text):
    """The dict from the first words of lines to the lists of what the lines of a text show."""
    found = {word: [] for word in ROWS}
    for index, words in rows_of(text):
        try:
            row = house_row(words)
        except NoCommand:
            raise NoText(index) from None
        if words[0] in ONCE and found[words[0]] != []:
            raise NoText(index)
        found[words[0]].append(row)
    return found


def read_house(text):
    """The house that a text shows."""
    if not isinstance(text, str):
        raise Wrong(0)
    found = house_rows(text)
    beyond = len(text.split("\n"))
    if any([found[word] == [] for word in ONCE]):
        raise NoText(beyond)
    groups = ((None, None),) + tuple(found["group"])
    processes, snapshots = tuple(sorted(found["process"])), tuple(sorted(found["snapshot"]))
    cells = tuple(sorted(found["own"] + found["common"]))
    house = found["room"][0] + (groups, found["born"][0], processes, snapshots, cells, found["zeros"][0])
    if not is_house(house):
        raise NoText(beyond)
    return house


def plain_word(thing):
    """The word of an integer, or of None."""
    return "none" if thing is None else str(thing)


def lot_word(lot):
    """The word of a lot that is not empty."""
    return ",".join([str(number) for number in lot])


def ticket_words(forest):
    """The words of the tickets of a forest."""
    return [f"{lot_word(lot)}:{number}" for lot, number in forest]


def place_words(places):
    """The words of places."""
    return [f"{process}.{page}" for process, page in places]


def house_text(house):
    """The text of a house."""
    frames, slots, groups, born, processes, snapshots, cells, zeros = house
    rows = [["room", str(frames), str(slots)], ["born", str(born[0]), str(born[1])]]
    rows.extend([["group", str(above), plain_word(room)] for above, room in groups[1:]])
    for number, group, many, forest in processes:
        rows.append(["process", str(number), str(group), str(many)] + ticket_words(forest))
    for number, many, pages in snapshots:
        rows.append(["snapshot", str(number), str(many)] + [str(page) for page in pages])
    for content, sort, places, readers in cells:
        rows.append([sort, str(content)] + place_words(places) + ["s" + word for word in place_words(readers)])
    rows.append(["zeros"] + place_words(zeros))
    return "\n".join([" ".join(row) for row in rows])


PARTS = {
    "integer": content_in,
    "number": number_in,
    "from one": number_in,
    "from two": number_in,
    "room": room_in,
    "some lot": lot_in,
}


def part_in(kind, word):
    """What a word shows that is a part of a step, of a kind of PARTS."""
    action = PARTS[kind]
    return action(word)


def kinds_of(word):
    """The kinds of the parts of a step that begins with a word."""
    if word in DEED_KINDS:
        return DEED_KINDS[word]
    if word in WISH_KINDS:
        return WISH_KINDS[word]
    if word == "read":
        return READ_KINDS
    raise NoCommand(word)


def step_in(words):
    """The step that words show."""
    if words == []:
        raise NoCommand(words)
    kinds = kinds_of(words[0])
    plain = [kind for kind in kinds if kind != "forest"]
    parts, rest = words[1:len(plain) + 1], words[len(plain) + 1:]
    if len(parts) < len(plain) or (rest != [] and "forest" not in kinds):
        raise NoCommand(words)
    step = (words[0],) + tuple([part_in(kind, word) for kind, word in zip(plain, parts)])
    if "forest" in kinds:
        step = step + (forest_in(rest),)
    if words[0] != "read" and not is_deed(step) and not is_wish(step):
        raise NoCommand(words)
    return step


def steps_in(rows):
    """The tuple of the steps that the lines show, tuples (index, words)."""
    steps = []
    for index, words in rows:
        try:
            step = step_in(words)
        except NoCommand:
            raise NoText(index) from None
        steps.append(step)
    return tuple(steps)


def part_words(kind, part):
    """The words of a part of a step."""
    if kind == "forest":
        return ticket_words(part)
    if kind == "some lot":
        return [lot_word(part)]
    return [plain_word(part)]


def deed_line(step):
    """The line of a step."""
    words = [step[0]]
    for kind, part in zip(kinds_of(step[0]), step[1:]):
        words.extend(part_words(kind, part))
    return " ".join(words)


def read_deed(line):
    """The step that a line shows."""
    if not isinstance(line, str):
        raise Wrong(0)
    try:
        return step_in(words_of(line))
    except NoCommand:
        raise NoCommand(line) from None


def script_text(script):
    """The text of a script."""
    return "\n".join([deed_line(step) for step in script])


def read_script(text):
    """The script that a text shows."""
    if not isinstance(text, str):
        raise Wrong(0)
    return steps_in(rows_of(text))

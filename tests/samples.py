"""Houses, forests, steps and odd values for the tests, the same ones in every run."""

from itertools import combinations, product

from pagesworn.errors import NoPlace, Nothing, Wrong
from pagesworn.forms import is_forest, places_of


def random_forest(rng, pages, tickets, number):
    """A forest of at most so many tickets over the pages, numbers up to number."""
    lots = []

    def nest(part):
        if not part:
            return
        lots.append(tuple(sorted(part)))
        if len(part) > 1 or rng.random() < 0.3:
            rng.shuffle(part)
            rest = part[rng.randint(0, 1):]
            at = rng.randint(0, len(rest))
            nest(rest[:at])
            nest(rest[at:])

    nest(list(pages))
    lots = sorted(set(lots))
    kept = rng.sample(lots, min(len(lots), rng.randint(0, tickets)))
    return tuple((lot, rng.randint(0, number)) for lot in sorted(kept))


def small_forests(number):
    """All forests over three pages, with numbers up to this."""
    lots = [(0,), (0, 1), (0, 1, 2), (0, 2), (1,), (1, 2), (2,)]
    for many in range(6):
        for some in combinations(lots, many):
            if is_forest(tuple((lot, 0) for lot in some)):
                for numbers in product(range(number + 1), repeat=many):
                    yield tuple(zip(some, numbers))


def great_forest(rng):
    """A forest as great as the bounds allow: ten tickets, the outermost of forty pages, numbers of nine digits."""
    pages = sorted(rng.sample(range(60), 25) + rng.sample(range(60, 1000), 15))
    lots = [tuple(pages[:count]) for count in (40, 30, 20, 10, 5)]
    lots += [tuple(pages[30:36]), tuple(pages[36:]), tuple(pages[20:25]), tuple(pages[25:30]), (pages[0],)]
    return tuple((lot, rng.randint(10 ** 8, 10 ** 9 - 1)) for lot in sorted(lots))


def random_groups(rng, most):
    groups = [(None, None)]
    for index in range(1, rng.randint(1, most)):
        groups.append((rng.randrange(index), rng.choice([None, 0, 1, 2, 5])))
    return tuple(groups)


def random_numbers(rng, most):
    """Numbers that are there, and how many ever were."""
    if rng.random() < 0.1:
        return (), rng.randint(0, 2)
    beyond = rng.randint(1, most + 2)
    return tuple(sorted(rng.sample(range(beyond), rng.randint(1, min(most, beyond))))), beyond


def spread_out(rng, items, holders):
    """Gives each item to one of the holders, or to none of them."""
    for item in items:
        holder = rng.choice(holders)
        if holder is not None:
            holder.append(item)


def random_cells(rng, many, places, readers, zeros):
    """Cells that hold some of the places and readers; some of the places go to zeros."""
    own = [([], []) for _ in range(rng.randint(min(1, many), many))]
    common = [[] for _ in range(rng.randint(0, many // 2))]
    spread_out(rng, places, [None, zeros] + [pair[0] for pair in own] + common)
    spread_out(rng, readers, [None] + [pair[1] for pair in own])
    cells = [(rng.randint(-2, 9), "own", tuple(sorted(held)), tuple(sorted(seen))) for held, seen in own if held or seen]
    cells += [(rng.randint(-2, 9), "common", tuple(sorted(held)), ()) for held in common if held]
    return tuple(sorted(cells))


def random_house(rng, processes=4, pages=4, snapshots=2, cells=5):
    """A house, kept or not, in which all sorts of things stand."""
    groups = random_groups(rng, 4)
    numbers, p = random_numbers(rng, processes)
    taken, s = random_numbers(rng, snapshots)
    rows = []
    for number in numbers:
        forest = random_forest(rng, range(rng.randint(0, pages + 1)), 5, 3)
        rows.append((number, rng.randrange(len(groups)), rng.randint(0, pages), forest))
    seen, snapshot_rows = [], []
    for number in taken:
        many = rng.randint(0, pages)
        zeros = tuple(page for page in range(many) if rng.random() < 0.3)
        snapshot_rows.append((number, many, zeros))
        seen += [(number, page) for page in range(many) if page not in zeros]
    places = [(row[0], page) for row in rows for page in range(row[2])]
    zeros = []
    found = random_cells(rng, cells, places, seen, zeros)
    return (rng.randint(2, 6), rng.randint(0, 3), groups, (p, s), tuple(rows), tuple(snapshot_rows), found, tuple(zeros))


def great_house(rng):
    """A house as great as the bounds of [4] allow."""
    groups = ((None, None), (0, 10 ** 9 - 1), (1, None), (0, 10 ** 9 - 2), (3, 7), (4, 0))
    rows = tuple((number * 7, number % 6, 60, great_forest(rng)) for number in range(12))
    snapshots = tuple((number * 3, 60, (number,)) for number in range(8))
    places = [(row[0], page) for row in rows for page in range(10)]
    readers = [(row[0], page) for row in snapshots for page in range(8, 22)]
    content = rng.randint(10 ** 19, 10 ** 20 - 1)
    cells = [(content - index, "own", tuple(places[index::60][:2]), tuple(readers[index::50])) for index in range(50)]
    cells += [(index - content, "common", (places[50 + index],), ()) for index in range(10)]
    zeros = tuple(sorted(places[110:]))
    return (10 ** 9 - 1, 10 ** 9 - 1, groups, (78, 22), rows, snapshots, tuple(sorted(cells)), zeros)


def random_step(rng, house, reach=6):
    """A deed or a wish that mostly names what is there."""

    def pick(numbers):
        return rng.choice(numbers) if numbers and rng.random() < 0.95 else rng.randint(0, 9)

    def forest():
        return random_forest(rng, range(rng.randint(0, 5)), 4, 3)

    processes = [row[0] for row in house[4]]
    process, other = pick(processes), pick(processes)
    snapshot = pick([row[0] for row in house[5]])
    group = pick(list(range(len(house[2]))))
    held = [page for at, page in places_of(house) if at == process]
    page = rng.choice(held) if held and rng.random() < 0.8 else rng.randint(0, reach)
    lots = [ticket[0] for row in house[4] if row[0] == process for ticket in row[3]]
    lot = rng.choice(lots) if lots and rng.random() < 0.9 else (0, 5)
    some = tuple(sorted({process, other, pick(processes)}))
    return rng.choice([
        ("write", process, page, rng.randint(-5, 5)), ("write", process, page, rng.randint(-5, 5)),
        ("write", other, page, 7), ("drop", process, page), ("exit", process),
        ("lessen", process, lot, rng.randint(0, 3)), ("forget", snapshot),
        ("begin", group, rng.randint(0, 4), forest()), ("more", process, rng.randint(1, 2)),
        ("raise", process, forest()), ("fork", process, group, forest()), ("fork", process, group, forest()),
        ("common", some, rng.randint(1, 2)), ("send", process, page, other), ("snapshot", process),
        ("back", snapshot, process), ("group", group, rng.choice([None, 0, 3])), ("move", process, group),
        ("room", max(1, group), rng.choice([None, 0, 3])), ("frames", rng.randint(2, 9)), ("slots", rng.randint(0, 9)),
    ])


def nested(value, make):
    for _ in range(19):
        value = make(value)
    return value


def odd_values():
    """Values of all kinds, among them ones that come close to what is looked for."""
    return [
        None, True, False, 0, 1, 2, -1, 10 ** 39, -(10 ** 39), "", "own", "common", "write", "\n", (), [], {}, (None, None),
        (None,), [None, None], (0,), (0, 0), (1, 0), (0, 1), [0, 1], (0, 1, 2), (True, 0), (0, False), ((0, 0),),
        ((0, 0), (0, 1)), ((0, 1), (0, 0)), ((0, 0), (0, 0)), ((0,), 1), ((), 1), ([0], 1), (((0,), 1),), [((0,), 1)],
        (((0, 1), 1), ((1, 2), 1)), {0: 1}, {(0, 0): None}, ("own", 0), ("box", 0), ("room", 1, None), ("exit", 0),
        ("exit", True), (["exit"], 0), (("exit",), 0), Wrong(0), NoPlace(0, 1), Nothing(), (Wrong(1), None),
        nested((), lambda value: (value,)), nested([], lambda value: [value]), nested({}, lambda value: {0: value}),
        nested((0, 1), lambda value: (value, value[0])), tuple(range(3000)), [0] * 3000, "x" * 3000,
    ]


def paths(value, ahead=()):
    """All ways that lead to a part of a nested tuple, itself counted."""
    found = [ahead]
    if isinstance(value, tuple):
        for index, part in enumerate(value):
            found += paths(part, ahead + (index,))
    return found


def exchanged(value, path, part):
    """The nested tuple with another part there."""
    if not path:
        return part
    return value[:path[0]] + (exchanged(value[path[0]], path[1:], part),) + value[path[0] + 1:]


def part_at(value, path):
    for index in path:
        value = value[index]
    return value


def changed(value):
    """All values that differ in one part: exchanged, left out, doubled, turned around, as a list, with one more."""
    odd = odd_values()[:-4]
    found = []
    for path in paths(value):
        part = part_at(value, path)
        found += [exchanged(value, path, other) for other in odd]
        if isinstance(part, tuple):
            found += [exchanged(value, path, other) for other in (list(part), part[::-1], part + part[-1:], part + (0,))]
            found += [exchanged(value, path, part[:index] + part[index + 1:]) for index in range(len(part))]
            found += [exchanged(value, path, part[:index] + part[index + 1:] + part[index:index + 1])
                      for index in range(len(part))]
        elif isinstance(part, int):
            found += [exchanged(value, path, other) for other in (part + 1, part - 1, part == 1, str(part), (part,))]
    return found

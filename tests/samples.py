"""Houses, forests, steps and odd values for the tests, the same ones in every run."""

import time
from contextlib import contextmanager
from itertools import combinations, product

from pagesworn.deeds import behind_deed
from pagesworn.errors import NoPlace, Nothing, SwornError, Wrong
from pagesworn.flows import widened
from pagesworn.forms import is_deed, is_forest, places_of
from pagesworn.inside import group_needs
from pagesworn.need import need
from pagesworn.webs import web_of
from pagesworn.wishes import behind_wish


def random_forest(rng, pages, tickets, number):
    """A forest of at most so many tickets over the pages, numbers up to number."""
    lots = []

    def nest(part):
        if not part:
            return
        lots.append(tuple(sorted(part)))
        if len(part) > 1 or rng.random() < 0.3:
            rng.shuffle(part)
            rest = part[rng.randint(0, 1):]
            at = rng.randint(0, len(rest))
            nest(rest[:at])
            nest(rest[at:])

    nest(list(pages))
    lots = sorted(set(lots))
    kept = rng.sample(lots, min(len(lots), rng.randint(0, tickets)))
    return tuple((lot, rng.randint(0, number)) for lot in sorted(kept))


def small_forests(number):
    """All forests over three pages, with numbers up to this."""
    lots = [(0,), (0, 1), (0, 1, 2), (0, 2), (1,), (1, 2), (2,)]
    for many in range(6):
        for some in combinations(lots, many):
            if is_forest(tuple((lot, 0) for lot in some)):
                for numbers in product(range(number + 1), repeat=many):
                    yield tuple(zip(some, numbers))


def great_forest(rng):
    """A forest as great as the bounds allow: ten tickets, the outermost of forty pages, numbers of nine digits."""
    pages = sorted(rng.sample(range(60), 25) + rng.sample(range(60, 1000), 15))
    lots = [tuple(pages[:count]) for count in (40, 30, 20, 10, 5)]
    lots += [tuple(pages[30:36]), tuple(pages[36:]), tuple(pages[20:25]), tuple(pages[25:30]), (pages[0],)]
    return tuple((lot, rng.randint(10 ** 8, 10 ** 9 - 1)) for lot in sorted(lots))


def random_groups(rng, most):
    groups = [(None, None)]
    for index in range(1, rng.randint(1, most)):
        groups.append((rng.randrange(index), rng.choice([None, 0, 1, 2, 5])))
    return tuple(groups)


def random_numbers(rng, most):
    """Numbers that are there, and how many ever were."""
    if rng.random() < 0.1:
        return (), rng.randint(0, 2)
    beyond = rng.randint(1, most + 2)
    return tuple(sorted(rng.sample(range(beyond), rng.randint(1, min(most, beyond))))), beyond


def spread_out(rng, items, holders):
    """Gives each item to one of the holders, or to none of them."""
    for item in items:
        holder = rng.choice(holders)
        if holder is not None:
            holder.append(item)


def random_cells(rng, many, places, readers, zeros):
    """Cells that hold some of the places and readers; some of the places go to zeros."""
    own = [([], []) for _ in range(rng.randint(min(1, many), many))]
    common = [[] for _ in range(rng.randint(0, many // 2))]
    spread_out(rng, places, [None, zeros] + [pair[0] for pair in own] + common)
    spread_out(rng, readers, [None] + [pair[1] for pair in own])
    cells = [(rng.randint(-2, 9), "own", tuple(sorted(held)), tuple(sorted(seen))) for held, seen in own if held or seen]
    cells += [(rng.randint(-2, 9), "common", tuple(sorted(held)), ()) for held in common if held]
    return tuple(sorted(cells))


def random_house(rng, processes=4, pages=4, snapshots=2, cells=5):
    """A house, kept or not, in which all sorts of things stand."""
    groups = random_groups(rng, 4)
    numbers, p = random_numbers(rng, processes)
    taken, s = random_numbers(rng, snapshots)
    rows = []
    for number in numbers:
        forest = random_forest(rng, range(rng.randint(0, pages + 1)), 5, 3)
        rows.append((number, rng.randrange(len(groups)), rng.randint(0, pages), forest))
    seen, snapshot_rows = [], []
    for number in taken:
        many = rng.randint(0, pages)
        zeros = tuple(page for page in range(many) if rng.random() < 0.3)
        snapshot_rows.append((number, many, zeros))
        seen += [(number, page) for page in range(many) if page not in zeros]
    places = [(row[0], page) for row in rows for page in range(row[2])]
    zeros = []
    found = random_cells(rng, cells, places, seen, zeros)
    return (rng.randint(2, 6), rng.randint(0, 3), groups, (p, s), tuple(rows), tuple(snapshot_rows), found, tuple(zeros))


def great_house(rng):
    """A house as great as the bounds of [4] allow."""
    groups = ((None, None), (0, 10 ** 9 - 1), (1, None), (0, 10 ** 9 - 2), (3, 7), (4, 0))
    rows = tuple((number * 7, number % 6, 60, great_forest(rng)) for number in range(12))
    snapshots = tuple((number * 3, 60, (number,)) for number in range(8))
    places = [(row[0], page) for row in rows for page in range(10)]
    readers = [(row[0], page) for row in snapshots for page in range(8, 22)]
    content = rng.randint(10 ** 19, 10 ** 20 - 1)
    cells = [(content - index, "own", tuple(places[index::60][:2]), tuple(readers[index::50])) for index in range(50)]
    cells += [(index - content, "common", (places[50 + index],), ()) for index in range(10)]
    zeros = tuple(sorted(places[110:]))
    return (10 ** 9 - 1, 10 ** 9 - 1, groups, (78, 22), rows, snapshots, tuple(sorted(cells)), zeros)


def ten_tickets(rng, pages, number):
    """A forest of ten tickets over the pages, whose lots lie within one another, numbers up to number."""
    parts, lots = [list(pages)], {tuple(pages)}
    while len(lots) < 10:
        part = parts.pop(rng.choice([index for index, part in enumerate(parts) if len(part) > 1]))
        rng.shuffle(part)
        at = rng.randint(1, len(part) - 1)
        parts += [part[:at], part[at:]]
        lots |= {tuple(sorted(part[:at])), tuple(sorted(part[at:]))}
    lots = sorted(sorted(lots)[:10])
    return tuple((lot, rng.randint(0, number)) for lot in lots)


def tight_house(rng, processes=12, number=3):
    """A house as great as the bounds of [4] allow, whose tickets, cells and rooms bar one another."""
    each = 120 // processes
    places = [(process, page) for process in range(processes) for page in range(each)]
    rows = tuple((process, process % 6, 60, ten_tickets(rng, range(min(each, 40)), number)) for process in range(processes))
    snapshots = tuple((snapshot, 15, (snapshot,)) for snapshot in range(8))
    readers = [(row[0], page) for row in snapshots for page in range(15) if page not in row[2]]
    zeros = []
    held, seen = [[] for _ in range(60)], [[] for _ in range(60)]
    spread_out(rng, places, held + [zeros] * 6)
    spread_out(rng, readers, seen[:50])
    found = [(rng.randint(-9, 9) * 10 ** 18, "common" if index > 55 and held[index] else "own", tuple(held[index]), tuple(seen[index]))
             for index in range(60) if held[index] or seen[index]]
    rooms = [rng.choice([None, 0, 20, 40, 60]) for _ in range(5)]
    groups = ((None, None),) + tuple(zip((0, 1, 0, 3, 4), rooms))
    return (rng.randint(2, 90), rng.randint(0, 30), groups, (processes, 8), rows, snapshots, tuple(sorted(found)), tuple(zeros))


def great_houses(rng):
    """Houses as great as the bounds of [4] allow, of several sorts."""
    tight = [tight_house(rng, processes, number) for processes in (12, 6, 3) for number in (1, 4, 10 ** 9 - 1)]
    return tight + [great_house(rng)]


def shared_house(rng, processes=4, places=8):
    """A house in which a few processes in nested groups share most of what they show, with tickets for most of it."""
    rows, shown = [], []
    many = rng.randint(1, processes)
    groups = [(None, None)]
    for index in range(1, rng.randint(1, 5)):
        groups.append((rng.randrange(index), rng.choice([None, 1, 2, 3, 4])))
    for process in range(many):
        pages = rng.randint(1, max(1, places // many))
        lots = [lot for lot, _ in random_forest(rng, range(pages), 5, 0)]
        lots = sorted(set(lots) | ({tuple(range(pages))} if rng.random() < 0.8 else set()))
        rows.append((process * 2, rng.randrange(len(groups)), pages, tuple((lot, rng.choice((0, 1, 1, 1, 2, 3))) for lot in lots)))
        shown += [(process * 2, page) for page in range(pages)]
    seen, zeros, snapshots = [], [], []
    for snapshot in range(rng.choice((0, 0, 1, 2))):
        snapshots.append((snapshot, 2, rng.choice(((), (), (1,)))))
        seen += [(snapshot, page) for page in range(2) if page not in snapshots[-1][2]]
    held, readers = [[] for _ in range(rng.randint(1, 4))], [[] for _ in range(5)]
    spread_out(rng, shown, held * 3 + [zeros, zeros, None])
    spread_out(rng, seen, readers + [None])
    cells = []
    for index, part in enumerate(readers):
        places_there = tuple(held[index]) if index < len(held) else ()
        if places_there or part:
            sort = "common" if places_there and not part and rng.random() < 0.2 else "own"
            cells.append((rng.randint(-2, 9), sort, places_there, tuple(part)))
    return (rng.randint(2, 5), rng.randint(0, 3), tuple(groups), (processes * 2, 3), tuple(rows), tuple(snapshots),
            tuple(sorted(cells)), tuple(zeros))


def small_house(rng):
    """A house of which all that can be done there can be gone through."""
    while True:
        house = random_house(rng, 3, 3, 2, 3) if rng.random() < 0.2 else shared_house(rng, 3, 6)
        if 1 <= len(places_of(house)) <= 6:
            return house


def any_house(rng):
    """A house that is not great, of any sort."""
    return random_house(rng) if rng.random() < 0.3 else shared_house(rng)


def with_limits(house, needs, group_needs, rng):
    """The house in which capacity and the rooms are just what is needed, one less or one more, so far as they can be."""
    total = max(2, needs + rng.choice((-1, 0, 0, 1)))
    slots = rng.randint(0, total - 2)
    groups = [(None, None)]
    for row, many in list(zip(house[2], group_needs))[1:]:
        groups.append((row[0], rng.choice([None, max(0, many + rng.choice((-1, 0, 0, 1)))])))
    return (total - slots, slots, tuple(groups)) + house[3:]


def chain_web(many):
    """A web in which one place can come only if all others exchange places, one behind the other.

    Process n has the pages 0 and 1, and may copy one; page 1 is in the cell of page 0 of the next process.
    The flow that has all pages 1 but the last process's can be widened only by page 0 of the last one.
    """
    tickets = tuple((process, (0, 1), 1, None) for process in range(many))
    places = tuple(((process, page), process, process + page) for process in range(many) for page in (0, 1))
    web = (tickets, places[:-1], (1,) * many)
    return web, tuple((process, 1) for process in range(many - 1))


def random_web(rng):
    """A web of a few processes whose places are in a few cells, the numbers being any."""
    numbers = rng.choice([(0, 1, 1, 1, 2), (1, 1, 1, 2), (0, 1, 2, 3, 10 ** 9 - 1)])
    processes = rng.randint(1, 4)
    rows, places = [], []
    for process in range(processes):
        pages = rng.randint(1, 10 // processes)
        lots = random_forest(rng, range(pages), 4, 0) or (((0,), 0),)
        rows.append((process, 0, pages, tuple((lot, rng.choice(numbers)) for lot, _ in lots)))
        places += [(process, page) for page in range(pages)]
    zeros, held = [], [[] for _ in range(rng.randint(0, 4))]
    spread_out(rng, places, held * 3 + [zeros, None])
    cells = sorted((0, "own", tuple(part), ()) for part in held if part)
    house = (2, 0, ((None, None),), (processes, 0), tuple(rows), (), tuple(cells), tuple(zeros))
    return web_of(house)[:2] + (tuple(rng.choice(numbers) for _ in cells),)


def nested_web(rng, processes, pages, cells):
    """A web of many nested tickets and full cells, in which several roads lead one over the other."""
    rows, places = [], []
    for process in range(processes):
        many = rng.randint(1, pages)
        lots = {lot for lot, _ in random_forest(rng, range(many), 8, 0)} | {tuple(range(many))}
        rows.append((process, 0, many, tuple((lot, rng.randint(1, len(lot) // 2 + 1)) for lot in sorted(lots))))
        places += [(process, page) for page in range(many)]
    held = [[] for _ in range(cells)]
    spread_out(rng, places, held)
    found = tuple(sorted((0, "own", tuple(part), ()) for part in held if part))
    tickets, places, _ = web_of((2, 0, ((None, None),), (processes, 0), tuple(rows), (), found, ()))
    return (tickets, places, tuple(rng.randint(1, 2) for _ in found))


def knotted_house(rng, processes, pages):
    """A house of nested tickets that let about half of their pages, most cells being shared by two places.

    Who takes what comes first takes more of some cells than can be, so that others have to give way, one for another.
    """
    rows, free = [], []
    for process in range(processes):
        many = rng.randint(2, pages)
        lots = sorted({lot for lot, _ in random_forest(rng, range(many), 8, 0)} | {tuple(range(many))})
        rows.append((process, 0, many, tuple((lot, rng.randint(1, max(1, len(lot) * 2 // 3))) for lot in lots)))
        free += [(process, page) for page in range(many)]
    rng.shuffle(free)
    zeros, cells = [], []
    while free:
        many = rng.choice((1, 2, 2, 2, 3))
        if rng.random() < 0.3:
            zeros += free[:many]
        else:
            cells.append((rng.randint(-9, 9), "own", tuple(sorted(free[:many])), ()))
        free = free[many:]
    return (9, 9, ((None, None),), (processes, 0), tuple(rows), (), tuple(sorted(cells)), tuple(sorted(zeros)))


def some_flow(rng, web, lets):
    """A flow of the web to which nothing can simply be put, or one that is shorter."""
    chosen = []
    places = [row[0] for row in web[1]]
    rng.shuffle(places)
    for place in places[:rng.choice((len(places), len(places), rng.randint(0, len(places))))]:
        if lets(web, tuple(sorted(chosen + [place]))):
            chosen.append(place)
    return tuple(sorted(chosen))


def any_greatest_flow(rng, web, lets):
    """One of the greatest flows of the web, left to chance."""
    flow = some_flow(rng, web, lets)
    longer = widened(web, flow)
    while longer is not None:
        flow = longer
        longer = widened(web, flow)
    return flow


def named_steps(rng, house, many):
    """Several deeds and wishes that name what is there, each with the house behind it."""
    found = []
    while len(found) < many:
        step = random_step(rng, house)
        try:
            found.append((step, behind_deed(house, step)[0] if is_deed(step) else behind_wish(house, step)))
        except SwornError:
            pass
    return found


def named_wishes(rng, house, many):
    """Several wishes that name what is there, each with the house behind it."""
    found = []
    while len(found) < many:
        found += [pair for pair in named_steps(rng, house, many) if not is_deed(pair[0])]
    return found[:many]


def near_limits(house, wish, needs, group_needs, at, more):
    """A house and a wish of the same sort, of which the house behind has just what it needs, whose needs are told.

    Only at one place, None for capacity, or a group, it has so many more. None if there can be no such house.
    """
    frames = needs + (more if at is None else 0)
    rooms = [None] + [many + (more if group == at else 0) for group, many in list(enumerate(group_needs))[1:]]
    if frames < 2 or any(room is not None and room < 0 for room in rooms):
        return None
    groups = tuple(zip([row[0] for row in house[2]], rooms))
    if wish[0] == "frames":
        return (9, frames - 2, groups) + house[3:], ("frames", 2)
    if wish[0] == "slots":
        return (2, 9, groups) + house[3:], ("slots", frames - 2)
    if wish[0] == "room":
        group = wish[1]
        other = groups[:group] + ((groups[group][0], 7),) + groups[group + 1:]
        return (frames, 0, other) + house[3:], ("room", group, rooms[group])
    if wish[0] == "group":
        return (frames, 0, groups) + house[3:], wish[:2] + (rooms[-1],)
    return (frames - 2, 2, groups) + house[3:] if frames > 3 else (2, frames - 2, groups) + house[3:], wish


def cases_near_limits(rng, many, wishes):
    """Tuples (at, house, wish): behind the wish so many houses need just what there is, or up to two more at one place."""
    for _ in range(many):
        house = shared_house(rng)
        for wish, behind in named_wishes(rng, house, wishes):
            groups = group_needs(behind)
            at = rng.choice([None] + list(range(1, len(groups))))
            near = near_limits(house, wish, need(behind), groups, at, rng.choice((0, -1, -1, -2)))
            if near is not None:
                yield (at,) + near


def agreed(test, function, told, ahead, things):
    """The answers of a function to each of the things, which all are what the other one tells, True or False."""
    answers = []
    for thing in things:
        answer = function(*ahead, thing)
        answers.append(answer)
        if answer is not told(*ahead, thing):
            test.fail(f"{function.__name__} of {thing!r} is {answer!r}")
    return answers


@contextmanager
def moments(test):
    """What is done here ends within moments."""
    began = time.monotonic()
    yield
    test.assertLess(time.monotonic() - began, 20)


def random_step(rng, house, reach=6):
    """A deed or a wish that mostly names what is there."""

    def pick(numbers):
        return rng.choice(numbers) if numbers and rng.random() < 0.95 else rng.randint(0, 9)

    def forest():
        return random_forest(rng, range(rng.randint(0, 5)), 4, 3)

    processes = [row[0] for row in house[4]]
    process, other = pick(processes), pick(processes)
    snapshot = pick([row[0] for row in house[5]])
    group = pick(list(range(len(house[2]))))
    held = [page for at, page in places_of(house) if at == process]
    page = rng.choice(held) if held and rng.random() < 0.8 else rng.randint(0, reach)
    lots = [ticket[0] for row in house[4] if row[0] == process for ticket in row[3]]
    lot = rng.choice(lots) if lots and rng.random() < 0.9 else (0, 5)
    some = tuple(sorted({process, other, pick(processes)}))
    return rng.choice([
        ("write", process, page, rng.randint(-5, 5)), ("write", process, page, rng.randint(-5, 5)),
        ("write", other, page, 7), ("drop", process, page), ("exit", process),
        ("lessen", process, lot, rng.randint(0, 3)), ("forget", snapshot),
        ("begin", group, rng.randint(0, 4), forest()), ("more", process, rng.randint(1, 2)),
        ("raise", process, forest()), ("fork", process, group, forest()), ("fork", process, group, forest()),
        ("common", some, rng.randint(1, 2)), ("send", process, page, other), ("snapshot", process),
        ("back", snapshot, process), ("group", group, rng.choice([None, 0, 3])), ("move", process, group),
        ("room", max(1, group), rng.choice([None, 0, 3])), ("frames", rng.randint(2, 9)), ("slots", rng.randint(0, 9)),
    ])


def nested(value, make):
    for _ in range(19):
        value = make(value)
    return value


def odd_values():
    """Values of all kinds, among them ones that come close to what is looked for."""
    return [
        None, True, False, 0, 1, 2, -1, 10 ** 39, -(10 ** 39), "", "own", "common", "write", "\n", (), [], {}, (None, None),
        (None,), [None, None], (0,), (0, 0), (1, 0), (0, 1), [0, 1], (0, 1, 2), (True, 0), (0, False), ((0, 0),),
        ((0, 0), (0, 1)), ((0, 1), (0, 0)), ((0, 0), (0, 0)), ((0,), 1), ((), 1), ([0], 1), (((0,), 1),), [((0,), 1)],
        (((0, 1), 1), ((1, 2), 1)), {0: 1}, {(0, 0): None}, ("own", 0), ("box", 0), ("room", 1, None), ("exit", 0),
        ("exit", True), (["exit"], 0), (("exit",), 0), Wrong(0), NoPlace(0, 1), Nothing(), (Wrong(1), None),
        nested((), lambda value: (value,)), nested([], lambda value: [value]), nested({}, lambda value: {0: value}),
        nested((0, 1), lambda value: (value, value[0])), tuple(range(3000)), [0] * 3000, "x" * 3000,
    ]


def paths(value, ahead=()):
    """All ways that lead to a part of a nested tuple, itself counted."""
    found = [ahead]
    if isinstance(value, tuple):
        for index, part in enumerate(value):
            found += paths(part, ahead + (index,))
    return found


def exchanged(value, path, part):
    """The nested tuple with another part there."""
    if not path:
        return part
    return value[:path[0]] + (exchanged(value[path[0]], path[1:], part),) + value[path[0] + 1:]


def part_at(value, path):
    for index in path:
        value = value[index]
    return value


def changed(value):
    """All values that differ in one part: exchanged, left out, doubled, turned around, as a list, with one more."""
    odd = odd_values()[:-4]
    found = []
    for path in paths(value):
        part = part_at(value, path)
        found += [exchanged(value, path, other) for other in odd]
        if isinstance(part, tuple):
            found += [exchanged(value, path, other) for other in (list(part), part[::-1], part + part[-1:], part + (0,))]
            found += [exchanged(value, path, part[:index] + part[index + 1:]) for index in range(len(part))]
            found += [exchanged(value, path, part[:index] + part[index + 1:] + part[index:index + 1])
                      for index in range(len(part))]
        elif isinstance(part, int):
            found += [exchanged(value, path, other) for other in (part + 1, part - 1, part == 1, str(part), (part,))]
    return found

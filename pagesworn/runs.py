"""Runs: scripts done step by step, and whether their answers are those of a flat memory."""

from pagesworn.deeds import behind_deed, read
from pagesworn.errors import NoGroup, NoPlace, NoProcess, NoSnapshot, NoTicket, SwornError
from pagesworn.flat import flat_behind, flat_of, flat_read, same_shown
from pagesworn.forms import is_deed, is_integer
from pagesworn.inside import is_kept
from pagesworn.need import capacity, live, need
from pagesworn.wishes import behind_wish

DONE = ("done", "place", "copy", "granted")


def is_read(step):
    """Whether a step is a read."""
    return step[0] == "read"


def behind_named(house, step):
    """The tuple (behind, answer) for a step that names what is there."""
    if is_read(step):
        return (house, read(house, step[1], step[2]))
    if is_deed(step):
        return behind_deed(house, step)
    behind = behind_wish(house, step)
    return (behind, "granted") if is_kept(behind) else (house, "refused")


def behind_step(house, step):
    """The tuple (behind, answer) for any step."""
    try:
        return behind_named(house, step)
    except NoProcess:
        return (house, "NoProcess")
    except NoPlace:
        return (house, "NoPlace")
    except NoGroup:
        return (house, "NoGroup")
    except NoSnapshot:
        return (house, "NoSnapshot")
    except NoTicket:
        return (house, "NoTicket")


def run(house, script):
    """The tuple (answers, houses) of the steps of a script, done one behind the other."""
    answers = []
    houses = [house]
    for step in script:
        behind, answer = behind_step(houses[-1], step)
        answers.append(answer)
        houses.append(behind)
    return (tuple(answers), tuple(houses))


def levels(house, script):
    """For each of the houses of a run how many cells there are, how many it needs, and for how many there is room."""
    return tuple([(live(behind), need(behind), capacity(behind)) for behind in run(house, script)[1]])


def copied(thing):
    """The thing, each list and each dict in it being a new one."""
    if isinstance(thing, list):
        return [copied(part) for part in thing]
    if isinstance(thing, tuple):
        return tuple([copied(part) for part in thing])
    if isinstance(thing, dict):
        return {key: copied(thing[key]) for key in thing}
    return thing


def told_by_read(flat, step):
    """What a flat memory tells for a read: the content, or the name of the error."""
    try:
        return flat_read(flat, step[1], step[2])
    except NoProcess:
        return "NoProcess"
    except NoPlace:
        return "NoPlace"


def flat_behind_answer(flat, step, answer):
    """The flat memory behind a deed or a wish that was answered so."""
    if not isinstance(answer, str) or answer not in DONE:
        return flat
    try:
        return flat_behind(flat, step, True)
    except SwornError:
        return flat


def run_flat(flat, script, answers):
    """The tuple (told, flats): what a flat memory tells for the steps of a script that were answered so."""
    told = []
    flats = [flat]
    for step, answer in zip(script, answers):
        if is_read(step):
            told.append(told_by_read(flats[-1], step))
            flats.append(flats[-1])
        else:
            told.append(copied(answer))
            flats.append(flat_behind_answer(flats[-1], step, answer))
    return (tuple(told), tuple(flats))


def first_unlike(flat, script, answers):
    """The index of the first read that was not answered as a flat memory tells, None if there is none."""
    told = run_flat(flat, script, answers)[0]
    for index, step in enumerate(script):
        if is_read(step):
            answer = answers[index]
            if is_integer(answer) != is_integer(told[index]) or answer != told[index]:
                return index
    return None


def agrees(house, script):
    """Whether the answers of a run, and all houses behind its steps, are those of a flat memory."""
    answers, houses = run(house, script)
    flat = flat_of(house)
    if first_unlike(flat, script, answers) is not None:
        return False
    flats = run_flat(flat, script, answers)[1]
    return all([same_shown(behind, other) for behind, other in zip(houses, flats)])

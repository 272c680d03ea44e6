"""Weavings: tasks that go on by turns, by what is picked."""

from handledeeds.limits import MOST
from handledeeds.machine import Machine
from handledeeds.rows import rows_of
from handledeeds.same import is_same
from handledeeds.weaver import weaver_of


def woven(tasks):
    """The TERM that weaves tasks, functions of a number, and tells the sum of what they tell."""
    return weaver_of(tasks)


def turns_of(task, *, most=MOST):
    """What a task says from pause to pause; None where it doesn't come to its end, or asks else."""
    machine = Machine(rows_of(("call", task, ("num", 0))), most=most)
    turns = [[]]
    while machine.run()[0] == "asks":
        _, deed, told = machine.outcome()
        if deed == "pause":
            turns.append([])
        elif deed == "say":
            turns[-1].append(told)
        else:
            return None
        machine.answer(0)
    return turns if machine.outcome()[0] == "done" else None


def weave(turns, picks):
    """The list of what's said, pick by pick; None where there are too few picks."""
    said = []
    places = starts(turns)
    for pick in picks:
        going = still_going(turns, places)
        if not going:
            break
        chosen = going[pick % len(going)]
        said.extend(turns[chosen][places[chosen]])
        places = one_on(places, chosen)
    return None if still_going(turns, places) else said


def starts(rows):
    """The places at which all rows begin."""
    return tuple([0 for _ in rows])


def still_going(rows, places):
    """The list of the numbers of the rows that aren't at their end."""
    return [at for at, row in enumerate(rows) if places[at] < len(row)]


def one_on(places, chosen):
    """The places, of which the chosen one is one further on."""
    return tuple([place + 1 if at == chosen else place for at, place in enumerate(places)])


def is_weaving(rows, thing):
    """Whether a thing is a list of all that stands in rows, each row's in its order."""
    if type(thing) is not list:
        return False
    # All places that the rows may be at, what's ahead being woven.
    reached = {starts(rows): True}
    for told in thing:
        further = {}
        for places in reached:
            for at in still_going(rows, places):
                if is_same(rows[at][places[at]], told):
                    further[one_on(places, at)] = True
        reached = further
    return tuple([len(row) for row in rows]) in reached


def picks_of(turns, thing):
    """The first list of picks, each below how many go on, by which weave tells a thing; None of none."""
    if type(thing) is not list:
        return None
    return picks_from(turns, thing, starts(turns), 0, {})


def picks_from(turns, thing, places, at, dead):
    """Likewise from these places on for what's in the thing from at on; dead are places that lead nowhere."""
    going = still_going(turns, places)
    if not going:
        return [] if at == len(thing) else None
    # By the places it's known how much was said.
    if places in dead:
        return None
    for pick, chosen in enumerate(going):
        said = turns[chosen][places[chosen]]
        if is_same(thing[at:at + len(said)], said):
            picks = picks_from(turns, thing, one_on(places, chosen), at + len(said), dead)
            if picks is not None:
                return [pick, *picks]
    dead[places] = True
    return None

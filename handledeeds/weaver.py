"""The program that weaves tasks.

For each count of tasks that still go on it has a function of its own, a weaver, handed the list p of
these tasks, functions all: a list of one thing is that thing, of more the pair of the first one and the
list of the others. A weaver has one task go on, by a shallow answerer of pause around it alone; in the
place of that a weaver is called again, of what is kept and of the others.
"""

from handledeeds.limits import MODULUS

# By how many tasks go on, less one: what the weaver is called, and what, times this many, is 1 by 997.
WEAVERS = ("wa", "wb", "wc", "wd")

INVERSES = (1, 499, 665, 748)

LIST = ("name", "p")


def weaver_of(tasks):
    """The program that weaves these tasks."""
    told = call_of_weaver(len(tasks), list_of(tasks))
    for many in reversed(range(1, len(tasks) + 1)):
        told = ("let", WEAVERS[many - 1], weaver(many), told)
    return told


def call_of_weaver(many, tasks):
    """The call of the weaver of so many tasks by their list."""
    return ("call", ("name", WEAVERS[many - 1]), tasks)


def list_of(things):
    """The list of these TERMs, the last one being a thing, or the list of all others."""
    told = things[-1]
    for thing in things[-2::-1]:
        told = ("two", thing, told)
    return told


def behind(at):
    """The list of what stands in p behind so many."""
    told = LIST
    for _ in range(at):
        told = ("second", told)
    return told


def task_at(many, at):
    """The task in p, of so many, behind so many others."""
    return behind(at) if at == many - 1 else ("first", behind(at))


def list_with(many, at, others):
    """The list p, of so many, with other TERMs for the one behind so many."""
    ahead = [task_at(many, place) for place in range(at)]
    return list_of([*ahead, *others] if at == many - 1 else [*ahead, *others, behind(at + 1)])


def weaver(many):
    """The weaver of so many tasks."""
    # Times the inverse, numbers of one rest by many stand together: lowest those of rest 0, then those of
    # the highest rest, and so on down to 1. So by below alone it's told which one is picked, with no call.
    inverse = INVERSES[many - 1]
    picked = ("op", "times", ("ask", "pick", ("num", many)), ("num", inverse))
    firsts = sorted([(rest * inverse % MODULUS, rest) for rest in range(many)])
    told = gone_on(many, firsts[-1][1])
    for at in reversed(range(1, many)):
        is_below = ("op", "below", ("name", "r"), ("num", firsts[at][0]))
        told = ("if", is_below, gone_on(many, firsts[at - 1][1]), told)
    return ("rec", WEAVERS[many - 1], "p", ("let", "r", picked, told))


def gone_on(many, at):
    """The TERM that has one of the tasks go on, and then the weaver of those that still do."""
    told = ("name", "x")
    if many > 1:
        told = ("op", "plus", told, call_of_weaver(many - 1, list_with(many, at, [])))
    paused = call_of_weaver(many, list_with(many, at, [("name", "k")]))
    task = ("call", task_at(many, at), ("num", 0))
    return ("handle", "shallow", task, ("x", told), (("pause", "many", "u", "k", paused),))

"""A desk: rows of text that say what's done to a house, and what's asked of it."""

from handledeeds.deskrows import rows_said
from handledeeds.errors import BadAnswer
from handledeeds.errors import BadForm
from handledeeds.errors import Broken
from handledeeds.errors import Clash
from handledeeds.errors import NoName
from handledeeds.errors import NoRun
from handledeeds.errors import NotAsked
from handledeeds.errors import Round
from handledeeds.errors import TooMany
from handledeeds.errors import Used
from handledeeds.house import House
from handledeeds.kindtext import kind_text
from handledeeds.limits import STEPS


def answers(text, *, steps=STEPS):
    """The list of the answers to the rows of a text, done to a new house; BadRow."""
    sheet, said = rows_said(text)
    house = House(sheet)
    return [answer_to(house, row, steps) for row in said]


def answer_to(house, row, steps):
    """The answer to what a row says."""
    try:
        return told_of_row(house, row, steps)
    except BadAnswer:
        return "refused BadAnswer"
    except BadForm:
        return "refused BadForm"
    except Broken:
        return "refused Broken"
    except Clash:
        return "refused Clash"
    except NoName:
        return "refused NoName"
    except NoRun:
        return "refused NoRun"
    except NotAsked:
        return "refused NotAsked"
    except Round:
        return "refused Round"
    except TooMany:
        return "refused TooMany"
    except Used:
        return "refused Used"


def told_of_row(house, row, steps):
    """The answer to what a row says, where it isn't refused."""
    word, *handed = row
    if word == "go":
        house.go(handed[0], steps=steps)
        return outcome_text(house.outcome(handed[0]))
    teller = TELLERS[word]
    return teller(house, *handed)


def tell_define(house, name, term):
    house.define(name, term)
    return "done"


def tell_drop(house, name):
    house.drop(name)
    return "done"


def tell_start(house, term):
    return str(house.start(term))


def tell_answer(house, number, value):
    house.answer(number, value)
    return "done"


def tell_stop(house, number):
    house.stop(number)
    return "done"


def tell_undo(house):
    return "done" if house.undo() else "nothing"


def tell_kind(house, name):
    return kind_text(house.kind(name))


def tell_needs(house, name):
    return parted(house.needs(name))


def tell_names(house):
    return parted(house.names())


def tell_runs(house):
    return parted([str(number) for number in house.runs()])


def tell_outcome(house, number):
    return outcome_text(house.outcome(number))


def tell_trace(house, number):
    return parted([event_text(event) for event in house.trace(number)])


def tell_counts(house, number):
    return parted([str(count) for count in house.counts(number)])


def tell_deeds(house):
    return str(house.deeds())


TELLERS = {
    "define": tell_define,
    "drop": tell_drop,
    "start": tell_start,
    "answer": tell_answer,
    "stop": tell_stop,
    "undo": tell_undo,
    "kind": tell_kind,
    "needs": tell_needs,
    "names": tell_names,
    "runs": tell_runs,
    "outcome": tell_outcome,
    "trace": tell_trace,
    "counts": tell_counts,
    "deeds": tell_deeds,
}


def parted(words):
    """All these words, parted by blanks; a sign of its own of none."""
    return " ".join(words) if words else "-"


def told_text(told):
    """The text of what's told of a VALUE."""
    if type(told) is tuple:
        return f"({told_text(told[0])},{told_text(told[1])})"
    return str(told)


def outcome_text(outcome):
    """The text of an outcome."""
    word, *told = outcome
    if word == "stuck":
        return f"stuck {told[0]}"
    if word == "asks":
        return f"asks {told[0]} {told_text(told[1])}"
    if word == "done":
        return f"done {told_text(told[0])}"
    return word


def event_text(event):
    """The text of an event of a trace."""
    return ":".join([*event[:-1], told_text(event[-1])])

"""Records of runs, and papers of kinds, rows and records joined to one."""

from handledeeds.kindcheck import shows_kinds
from handledeeds.kindpapers import paper_of
from handledeeds.limits import MOST
from handledeeds.machinerows import do_rows
from handledeeds.machinestate import MachineState
from handledeeds.replies import is_answer
from handledeeds.replies import is_pair
from handledeeds.replies import is_reply
from handledeeds.replies import reply_kind
from handledeeds.rowcheck import are_rows_of
from handledeeds.rows import rows_of
from handledeeds.same import is_same


def record_of(rows, *, answers=(), most=MOST):
    """The record of a run that's answered so; None where it doesn't come to its end."""
    return recorded(rows, answers, most, None)


def recorded(rows, answers, most, sheet):
    """Likewise; None, too, where an answer that's used isn't as the sheet, if there's one, has it."""
    state = MachineState(list(rows), most)
    record = []
    used = 0
    seen = 0
    while True:
        if do_rows(state, 1) == 1:
            # By a row there's one event at most.
            if len(state.events) > seen:
                record.append((state.rows_done, state.events[seen]))
                seen += 1
        elif state.status[0] == "asks" and used < len(answers):
            value = answers[used]
            if sheet is not None and not is_reply(value, reply_kind(sheet, state.status[1])):
                return None
            used += 1
            record.append((state.rows_done, ("answer", value)))
            state.take_answer(value)
        else:
            break
    if state.status[0] != "done":
        return None
    record.append((state.rows_done, state.status))
    return record


def shows_record(rows, thing, *, most=MOST):
    """Whether a thing is the record of a run in which just what it tells is answered."""
    return shows_record_by(rows, thing, most, None)


def shows_record_by(rows, thing, most, sheet):
    """Likewise, each answer being as the sheet, if there's one, has it."""
    if type(thing) is not list:
        return False
    answers = [pair[1][1] for pair in thing if is_pair(pair) and is_pair(pair[1]) and is_answer_event(pair[1])]
    if not all([is_answer(value) for value in answers]):
        return False
    return is_same(thing, recorded(rows, answers, most, sheet))


def is_answer_event(event):
    """Whether a pair is the event of an answer, whatever was answered."""
    return type(event[0]) is str and event[0] == "answer"


def joined_of(term, sheet, *, answers=(), most=MOST):
    """The joined paper of a program that's answered so; Clash; None where there's none."""
    paper = paper_of(term, sheet)
    rows = rows_of(term)
    record = recorded(rows, answers, most, sheet)
    return None if record is None else (paper, rows, record)


def shows_joined(term, sheet, thing, *, most=MOST):
    """Whether a thing is a joined paper of a program, its paper of kinds this or any other."""
    if type(thing) is not tuple or len(thing) != 3:
        return False
    paper, rows, record = thing
    if not are_rows_of(term, rows) or not shows_kinds(term, sheet, paper):
        return False
    return shows_record_by(rows, record, most, sheet)


def is_of(told, kind):
    """Whether what's told of a VALUE may be of a KIND."""
    waiting = [(told, kind)]
    while waiting:
        part, wanted = waiting.pop()
        if wanted == "number":
            if type(part) is not int:
                return False
        elif wanted[0] == "fun":
            if part != "fun":
                return False
        elif wanted[0] == "pair":
            if not is_pair(part):
                return False
            waiting.extend([(part[0], wanted[1]), (part[1], wanted[2])])
    return True


def told_in(thing):
    """What a joined paper's record tells at last."""
    return thing[2][-1][1][1]

"""What a machine does, row by row.

Each of these does the row that's next: True. Where the run is stuck or too long by that row the state
tells it, and all else stays: False.
"""

from handledeeds.limits import PAIR_PARTS
from handledeeds.reckon import reckoned
from handledeeds.things import Thing
from handledeeds.things import is_thing
from handledeeds.things import pair_thing
from handledeeds.things import parts_of_thing
from handledeeds.things import told_thing


def do_rows(state, steps):
    """Do at most so many rows: how many were done."""
    done = 0
    while done < steps and state.status is None:
        row = state.rows[state.at]
        action = ACTIONS[row[0]]
        if not action(state, row):
            break
        done += 1
    state.rows_done += done
    return done


def stuck(state, word):
    """The run is stuck by the row that's next."""
    state.status = ("stuck", word)
    return False


def too_long(state):
    """The run is too long by the row that's next."""
    state.status = ("long",)
    return False


def num_row(state, row):
    state.stack.append(row[1])
    state.at += 1
    return True


def get_row(state, row):
    state.stack.append(state.scope[-1 - row[1]])
    state.at += 1
    return True


def fun_row(state, row):
    state.stack.append(Thing(row[0], (state.at + 1, state.scope)))
    state.at = row[1]
    return True


def name_row(state, row):
    state.scope = (*state.scope, state.stack.pop())
    state.at += 1
    return True


def unname_row(state, row):
    state.scope = state.scope[:-1]
    state.at += 1
    return True


def op_row(state, row):
    first, second = state.stack[-2:]
    if type(first) is not int or type(second) is not int:
        return stuck(state, "number")
    state.stack.pop()
    state.stack[-1] = reckoned(row[1], first, second)
    state.at += 1
    return True


def ifno_row(state, row):
    if type(state.stack[-1]) is not int:
        return stuck(state, "number")
    state.at = row[1] if state.stack.pop() == 0 else state.at + 1
    return True


def to_row(state, row):
    state.at = row[1]
    return True


def two_row(state, row):
    first, second = state.stack[-2:]
    if 1 + parts_of_thing(first) + parts_of_thing(second) > PAIR_PARTS:
        return too_long(state)
    state.stack.pop()
    state.stack[-1] = pair_thing(first, second)
    state.at += 1
    return True


def side_row(state, row):
    value = state.stack[-1]
    if not is_thing(value, "pair"):
        return stuck(state, "pair")
    state.stack[-1] = value.fields[0 if row[0] == "first" else 1]
    state.at += 1
    return True


def call_row(state, row):
    called, value = state.stack[-2:]
    if type(called) is int or called.form == "pair":
        return stuck(state, "call")
    if called.form == "held":
        return call_of_kept(state, called, value)
    if state.is_full():
        return too_long(state)
    state.calls += 1
    state.stack.pop()
    state.stack[-1] = ("back", state.at + 1, state.scope)
    at, scope = called.fields
    state.begin(at, (*scope, value) if called.form == "fun" else (*scope, called, value))
    return True


def call_of_kept(state, held, value):
    """What is kept is called."""
    if state.is_worn():
        return too_long(state)
    state.stack.pop()
    state.stack[-1] = ("back", state.at + 1, state.scope)
    state.moves += len(held.fields[1])
    state.go_on(held, value)
    return True


def past_row(state, row):
    # Of a pastof nothing is passed: it's a matter of kinds alone.
    deed = row[1] if row[0] == "past" else None
    state.pasts[-1] = (*state.pasts[-1], deed)
    state.at += 1
    return True


def unpast_row(state, row):
    state.pasts[-1] = state.pasts[-1][:-1]
    state.at += 1
    return True


def handle_row(state, row):
    _, way, _, _, at, behind = row
    scope = state.scope
    state.stack.append(("back", behind, scope))
    number = None
    if way == "under":
        state.unders += 1
        number = -state.unders
        state.scope = (*scope, number)
    state.answerers.append((state.at, scope, number, len(state.stack)))
    state.pasts.append(())
    state.at = at
    return True


def leave_row(state, row):
    if not state.answerers or state.answerers[-1][3] != len(state.stack) - 1:
        # T of a shallow one that was gone on with: what it comes to is told to who went on with it.
        return back_row(state, row)
    mark, scope, _, _ = state.answerers.pop()
    state.pasts.pop()
    value = state.stack.pop()
    state.begin(state.rows[mark][2], (*scope, value))
    return True


def ask_row(state, row):
    if state.is_full():
        return too_long(state)
    deed = row[1]
    value = state.stack.pop()
    state.note_ask(deed, value)
    passes = 0
    for number in reversed(range(len(state.answerers))):
        passes += state.pasts[number + 1].count(deed)
        answerer = state.answerers[number]
        if answerer[2] is None:
            for clause in state.rows[answerer[0]][3]:
                if clause[0] == deed and passes == 0:
                    answer(state, number, clause, value)
                    return True
                if clause[0] == deed:
                    passes -= 1
    state.status = ("asks", deed, told_thing(value))
    state.at += 1
    return True


def askof_row(state, row):
    _, k, deed = row
    called = state.scope[-1 - k]
    for number in reversed(range(len(state.answerers))):
        if state.answerers[number][2] == called:
            for clause in state.rows[state.answerers[number][0]][3]:
                if clause[0] == deed:
                    return askof_clause(state, number, clause)
            break
    return stuck(state, "answerer")


def askof_clause(state, number, clause):
    """An askof is answered by this clause of an answerer."""
    if state.is_full():
        return too_long(state)
    value = state.stack.pop()
    state.note_ask(clause[0], value)
    answer(state, number, clause, value)
    return True


def answer(state, number, clause, value):
    """An answerer answers what is asked by the row that's next, by a clause of its own."""
    _, how, place = clause
    mark, scope, _, base = state.answerers[number]
    scope = (*scope, value)
    if how == "end":
        wards = [frame[1:] for frame in state.stack[base:] if type(frame) is tuple and frame[0] == "ward"]
        state.drop(number)
        clean(state, tuple(wards[::-1]), place, scope)
        return
    held = state.taken(number)
    if how == "quick":
        state.stack.append(("waits", held))
        state.begin(place, scope)
    else:
        state.moves += len(held.fields[1])
        state.begin(place, (*scope, held))


def clean(state, wards, at, scope):
    """Clean the first one of these wards, to clean the others then; of none the clause is next."""
    if wards:
        state.stack.append(("cleans", wards[1:], at, scope))
        at, scope = wards[0]
    state.begin(at, scope)


def ward_row(state, row):
    state.stack.append(("ward", state.at + 1, state.scope))
    state.at = row[1]
    return True


def unward_row(state, row):
    _, at, _ = state.stack[-2]
    value = state.stack.pop()
    state.stack[-1] = ("cleaned", value, state.at + 1)
    state.at = at
    return True


def back_row(state, row):
    frame = state.stack[-2]
    word = frame[0]
    if word == "waits" and state.is_worn():
        return too_long(state)
    value = state.stack.pop()
    state.stack.pop()
    if word == "back":
        state.stack.append(value)
        state.begin(frame[1], frame[2])
    elif word == "waits":
        state.go_on(frame[1], value)
    else:
        state.events.append(("clean", told_thing(value)))
        if word == "cleaned":
            # Around U stands what stands around the ward.
            state.stack.append(frame[1])
            state.at = frame[2]
        else:
            clean(state, frame[1], frame[2], frame[3])
    return True


def end_row(state, row):
    state.status = ("done", told_thing(state.stack[-1]))
    return True


ACTIONS = {
    "num": num_row,
    "get": get_row,
    "fun": fun_row,
    "rec": fun_row,
    "call": call_row,
    "name": name_row,
    "unname": unname_row,
    "op": op_row,
    "ifno": ifno_row,
    "to": to_row,
    "two": two_row,
    "first": side_row,
    "second": side_row,
    "ask": ask_row,
    "askof": askof_row,
    "past": past_row,
    "pastof": past_row,
    "unpast": unpast_row,
    "handle": handle_row,
    "leave": leave_row,
    "ward": ward_row,
    "unward": unward_row,
    "back": back_row,
    "end": end_row,
}

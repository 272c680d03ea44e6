"""What a machine does, row by row.

Each of these does the row at a number, the stack being the state's own: it tells the number of the next
row. Where the run is over by a row, or waits, the state tells so, and None is told; where it's stuck or too
long all else stays.
"""

from handledeeds.limits import PAIR_PARTS
from handledeeds.reckon import reckoned
from handledeeds.things import form_of
from handledeeds.things import make_thing
from handledeeds.things import parts_of_thing
from handledeeds.things import told_thing


def do_rows(state, steps):
    """Do at most so many rows: how many were done."""
    if state.status is not None or steps <= 0:
        return 0
    rows, stack, at = state.rows, state.stack, state.at
    for done in range(steps):
        row = rows[at]
        if row[0] == "get":
            # A third of all rows that are done: no call is spent on these.
            stack.append(state.scope[-1 - row[1]])
            at += 1
            continue
        action = ACTIONS[row[0]]
        behind = action(state, row, at, stack)
        if behind is None:
            return stopped(state, at, done)
        at = behind
    state.at = at
    state.rows_done += steps
    return steps


def stopped(state, at, done):
    """No row can be done behind the one at a number, so many being done ahead of it: how many are."""
    word = state.status[0]
    if word == "asks":
        at += 1
    if word == "asks" or word == "done":
        done += 1
    state.at = at
    state.rows_done += done
    return done


def stuck(state, word):
    """The run is stuck by a row."""
    state.status = ("stuck", word)


def too_long(state):
    """The run is too long by a row."""
    state.status = ("long",)


def num_row(state, row, at, stack):
    stack.append(row[1])
    return at + 1


def fun_row(state, row, at, stack):
    stack.append(make_thing(state.things, row[0], (at + 1, state.scope)))
    return row[1]


def name_row(state, row, at, stack):
    state.scope = (*state.scope, stack.pop())
    return at + 1


def unname_row(state, row, at, stack):
    state.scope = state.scope[:-1]
    return at + 1


def op_row(state, row, at, stack):
    if type(stack[-1]) is not int or type(stack[-2]) is not int:
        return stuck(state, "number")
    second = stack.pop()
    stack[-1] = reckoned(row[1], stack[-1], second)
    return at + 1


def ifno_row(state, row, at, stack):
    if type(stack[-1]) is not int:
        return stuck(state, "number")
    return row[1] if stack.pop() == 0 else at + 1


def to_row(state, row, at, stack):
    return row[1]


def two_row(state, row, at, stack):
    first, second = stack[-2:]
    parts = 1 + parts_of_thing(state.things, first) + parts_of_thing(state.things, second)
    if parts > PAIR_PARTS:
        return too_long(state)
    stack.pop()
    stack[-1] = make_thing(state.things, "pair", (first, second, parts))
    return at + 1


def side_row(state, row, at, stack):
    value = stack[-1]
    if form_of(state.things, value) != "pair":
        return stuck(state, "pair")
    stack[-1] = state.things[value[1]][1][0 if row[0] == "first" else 1]
    return at + 1


def call_row(state, row, at, stack):
    called = stack[-2]
    if type(called) is int:
        return stuck(state, "call")
    form, fields = state.things[called[1]]
    if form == "pair":
        return stuck(state, "call")
    if form == "held":
        return call_of_kept(state, called, at)
    if state.is_full():
        return too_long(state)
    state.calls += 1
    value = stack.pop()
    stack[-1] = ("back", at + 1, state.scope)
    state.scope = (*fields[1], value) if form == "fun" else (*fields[1], called, value)
    return fields[0]


def call_of_kept(state, held, at):
    """What is kept is called."""
    if state.is_worn():
        return too_long(state)
    value = state.stack.pop()
    state.stack[-1] = ("back", at + 1, state.scope)
    state.moves += len(state.things[held[1]][1][1])
    return state.go_on(held, value)


def past_row(state, row, at, stack):
    # Of a pastof nothing is passed: it's a matter of kinds alone.
    deed = row[1] if row[0] == "past" else None
    state.pasts[-1] = (*state.pasts[-1], deed)
    return at + 1


def unpast_row(state, row, at, stack):
    state.pasts[-1] = state.pasts[-1][:-1]
    return at + 1


def handle_row(state, row, at, stack):
    _, way, _, _, begin, behind = row
    scope = state.scope
    stack.append(("back", behind, scope))
    number = None
    if way == "under":
        state.unders += 1
        number = -state.unders
        state.scope = (*scope, number)
    state.answerers.append((at, scope, number, len(stack)))
    state.pasts.append(())
    return begin


def leave_row(state, row, at, stack):
    if not state.answerers or state.answerers[-1][3] != len(stack) - 1:
        # T of a shallow one that was gone on with: what it comes to is told to who went on with it.
        return back_row(state, row, at, stack)
    answerer, scope, _, _ = state.answerers.pop()
    state.pasts.pop()
    state.scope = (*scope, stack.pop())
    return state.rows[answerer][2]


def ask_row(state, row, at, stack):
    if state.is_full():
        return too_long(state)
    deed = row[1]
    value = stack.pop()
    state.note_ask(deed, value)
    passes = 0
    for number in reversed(range(len(state.answerers))):
        passes += state.pasts[number + 1].count(deed)
        answerer = state.answerers[number]
        if answerer[2] is None:
            for clause in state.rows[answerer[0]][3]:
                if clause[0] == deed and passes == 0:
                    return answer(state, number, clause, value, at)
                if clause[0] == deed:
                    passes -= 1
    state.status = ("asks", deed, told_thing(state.things, value))
    return None


def askof_row(state, row, at, stack):
    _, k, deed = row
    called = state.scope[-1 - k]
    for number in reversed(range(len(state.answerers))):
        if state.answerers[number][2] == called:
            for clause in state.rows[state.answerers[number][0]][3]:
                if clause[0] == deed:
                    return askof_clause(state, number, clause, at)
            break
    return stuck(state, "answerer")


def askof_clause(state, number, clause, at):
    """An askof is answered by this clause of an answerer."""
    if state.is_full():
        return too_long(state)
    value = state.stack.pop()
    state.note_ask(clause[0], value)
    return answer(state, number, clause, value, at)


def answer(state, number, clause, value, at):
    """An answerer answers what is asked by the row at a number, by a clause of its own."""
    _, how, place = clause
    _, scope, _, base = state.answerers[number]
    scope = (*scope, value)
    if how == "end":
        wards = [frame[1:] for frame in state.stack[base:] if type(frame) is tuple and frame[0] == "ward"]
        state.drop(number)
        return clean(state, tuple(wards[::-1]), place, scope)
    pieces = len(state.answerers) - number
    held = state.taken(number, at + 1)
    if how == "quick":
        state.stack.append(("waits", held))
        state.scope = scope
    else:
        state.moves += pieces
        state.scope = (*scope, held)
    return place


def clean(state, wards, at, scope):
    """Clean the first one of these wards, to clean the others then; of none the clause is next."""
    if wards:
        state.stack.append(("cleans", wards[1:], at, scope))
        at, scope = wards[0]
    state.scope = scope
    return at


def ward_row(state, row, at, stack):
    stack.append(("ward", at + 1, state.scope))
    return row[1]


def unward_row(state, row, at, stack):
    _, begin, _ = stack[-2]
    value = stack.pop()
    stack[-1] = ("cleaned", value, at + 1)
    return begin


def back_row(state, row, at, stack):
    frame = stack[-2]
    word = frame[0]
    if word == "back":
        stack[-2:] = stack[-1:]
        state.scope = frame[2]
        return frame[1]
    if word == "waits" and state.is_worn():
        return too_long(state)
    value = stack.pop()
    stack.pop()
    if word == "waits":
        return state.go_on(frame[1], value)
    state.events.append(("clean", told_thing(state.things, value)))
    if word == "cleaned":
        # Around U stands what stands around the ward.
        stack.append(frame[1])
        return frame[2]
    return clean(state, frame[1], frame[2], frame[3])


def end_row(state, row, at, stack):
    state.status = ("done", told_thing(state.things, stack[-1]))
    return None


ACTIONS = {
    "num": num_row,
    "fun": fun_row,
    "rec": fun_row,
    "call": call_row,
    "name": name_row,
    "unname": unname_row,
    "op": op_row,
    "ifno": ifno_row,
    "to": to_row,
    "two": two_row,
    "first": side_row,
    "second": side_row,
    "ask": ask_row,
    "askof": askof_row,
    "past": past_row,
    "pastof": past_row,
    "unpast": unpast_row,
    "handle": handle_row,
    "leave": leave_row,
    "ward": ward_row,
    "unward": unward_row,
    "back": back_row,
    "end": end_row,
}

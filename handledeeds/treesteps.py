"""The steps of a run of a tree."""

from handledeeds.limits import PAIR_PARTS
from handledeeds.reckon import reckoned
from handledeeds.shapes import FIRST_INNER
from handledeeds.shapes import called_key
from handledeeds.shapes import clause_deeds
from handledeeds.shapes import clause_keys
from handledeeds.shapes import with_keys
from handledeeds.treestate import GOING
from handledeeds.treestate import LONG
from handledeeds.values import pair_of
from handledeeds.values import parts_of_value
from handledeeds.values import told_value

# Both parts of these, with which they end, are come to ahead of their step.
OF_TWO = {
    "call": True,
    "op": True,
    "two": True,
}

# A term of these tells a VALUE as it's come to.
VALUE_WORDS = {
    "num": True,
    "name": True,
    "fun": True,
    "rec": True,
}


def find_step(state):
    """Come to the PLACE of the next step: whether one can be; where none can, the state tells why."""
    if state.status != GOING:
        return False
    frames, now = state.frames, state.now
    value = come_to(state, now[1], now[2]) if now[0] == "term" else now[1]
    while frames and frames[-1][0] in OF_TWO:
        word, term, scope, told = frames[-1]
        if told == ():
            frames[-1] = (word, term, scope, (value,))
            value = come_to(state, term[-1], scope)
        elif word == "two" and not too_large(told[0], value):
            frames.pop()
            value = pair_of(told[0], value)
        else:
            break
    state.tell(value)
    if not frames:
        state.status = ("done", told_value(value))
        return False
    frame = frames[-1]
    if frame[0] not in TROUBLE_BY_WORD:
        return True
    trouble = TROUBLE_BY_WORD[frame[0]]
    found = trouble(state, frame, value)
    if found is not None:
        state.status = found
    return found is None


def come_to(state, term, scope):
    """Go on from a term that's come to, into it: to the first VALUE."""
    word = term[0]
    while word not in VALUE_WORDS:
        told = ()
        within = scope
        if word == "under":
            told = state.unders
            within = {**scope, called_key(term[1]): told}
            state.unders += 1
        state.frames.append((word, term, scope, told))
        scope = within
        # Its first part, of answerers T.
        term = term[FIRST_INNER[word] or 2]
        word = term[0]
    if word == "name":
        return scope[term[1]]
    return term if word == "num" else ("fun", term, scope)


def do_step(state):
    """Do the step at the PLACE that's come to."""
    frame = state.frames[-1]
    step = STEP_BY_WORD[frame[0]]
    step(state, frame, state.now[1])


def too_large(first, second):
    """Whether the pair of two VALUEs would have too many parts."""
    return 1 + parts_of_value(first) + parts_of_value(second) > PAIR_PARTS


def answerer_asked(frames, deed):
    """The number of the frame of the handle that answers a deed, passed ones left out; None of none."""
    passes = 0
    at = len(frames)
    for frame in reversed(frames):
        at -= 1
        word = frame[0]
        if word == "past":
            if frame[1][1] == deed:
                passes += 1
        elif word == "handle" and deed in clause_deeds(frame[1]):
            if passes == 0:
                return at
            passes -= 1
    return None


def answerer_called(frames, number, deed):
    """The number of the innermost frame of this very under; None where there's none, or it has no such clause."""
    at = len(frames)
    for frame in reversed(frames):
        at -= 1
        if frame[0] == "under" and frame[3] == number:
            return at if deed in clause_deeds(frame[1]) else None
    return None


def askof_answerer(state, frame):
    """The number of the frame of the under of which an askof asks; None as above."""
    _, called, deed, _ = frame[1]
    return answerer_called(state.frames, frame[2][called_key(called)], deed)


# What keeps a step from being done: told is what the run comes to by that, None where nothing does.


def full_trouble(state, frame, value):
    return LONG if state.is_full() else None


def worn_trouble(state, frame, value):
    return LONG if state.is_worn() else None


def call_trouble(state, frame, value):
    word = frame[3][0][0]
    if word == "fun":
        return full_trouble(state, frame, value)
    if word == "kept":
        return worn_trouble(state, frame, value)
    return ("stuck", "call")


def op_trouble(state, frame, value):
    return None if frame[3][0][0] == "num" and value[0] == "num" else ("stuck", "number")


def two_trouble(state, frame, value):
    # A pair that isn't too large asks for no step.
    return LONG


def if_trouble(state, frame, value):
    return None if value[0] == "num" else ("stuck", "number")


def side_trouble(state, frame, value):
    return None if value[0] == "pair" else ("stuck", "pair")


def askof_trouble(state, frame, value):
    if askof_answerer(state, frame) is None:
        return ("stuck", "answerer")
    return full_trouble(state, frame, value)


TROUBLE_BY_WORD = {
    "call": call_trouble,
    "op": op_trouble,
    "two": two_trouble,
    "if": if_trouble,
    "first": side_trouble,
    "second": side_trouble,
    "ask": full_trouble,
    "askof": askof_trouble,
    "waits": worn_trouble,
}


def call_step(state, frame, value):
    called = frame[3][0]
    state.frames.pop()
    if called[0] == "kept":
        state.go_on(called[1], value)
        return
    state.calls += 1
    _, term, scope = called
    if term[0] == "fun":
        state.do_term(term[2], {**scope, term[1]: value})
    else:
        state.do_term(term[3], {**scope, term[1]: called, term[2]: value})


def let_step(state, frame, value):
    _, term, scope, _ = frame
    state.become(term[3], {**scope, term[1]: value})


def op_step(state, frame, value):
    state.leave(("num", reckoned(frame[1][1], frame[3][0][1], value[1])))


def if_step(state, frame, value):
    _, term, scope, _ = frame
    state.become(term[3] if value[1] == 0 else term[2], scope)


def side_step(state, frame, value):
    state.leave(value[1] if frame[0] == "first" else value[2])


def same_step(state, frame, value):
    state.leave(value)


def then_step(state, frame, value):
    _, term, scope, _ = frame
    x, then = term[3]
    state.become(then, {**scope, x: value})


def ask_step(state, frame, value):
    deed = frame[1][1]
    state.note_ask(deed, value)
    at = answerer_asked(state.frames, deed)
    if at is None:
        state.status = ("asks", deed, told_value(value))
    else:
        answer(state, at, deed, value)


def askof_step(state, frame, value):
    state.note_ask(frame[1][2], value)
    answer(state, askof_answerer(state, frame), frame[1][2], value)


def answer(state, at, deed, value):
    """The answerer of a frame answers a deed that's asked at the innermost frame."""
    _, term, scope, _ = state.frames[at]
    clause = term[4][clause_deeds(term).index(deed)]
    # The ask itself is done with: what's left to do goes on by what's put there.
    left = tuple(state.frames[at:-1])
    del state.frames[at:]
    kept = ("kept", left[1:] if term[1] == "shallow" else left)
    within = with_keys(scope, clause_keys(clause), [value, kept])
    if clause[1] == "end":
        clean(state, dropped_wards(left), clause[4], within)
        return
    if clause[1] == "quick":
        state.frames.append(("waits", left))
    state.do_term(clause[4], within)


def dropped_wards(frames):
    """The pairs (U, scope) of the wards in these frames of which T isn't come to its end, inner ones first."""
    return [(frame[1][2], frame[2]) for frame in frames[::-1] if frame[0] == "ward"]


def clean(state, wards, term, scope):
    """Clean the first one of these wards, to clean the others then; of none the term is next."""
    if not wards:
        state.do_term(term, scope)
        return
    state.frames.append(("cleans", wards[1:], term, scope))
    state.do_term(wards[0][0], wards[0][1])


def ward_step(state, frame, value):
    _, term, scope, _ = frame
    state.frames[-1] = ("cleaned", value)
    state.do_term(term[2], scope)


def cleaned_step(state, frame, value):
    state.events.append(("clean", told_value(value)))
    state.leave(frame[1])


def cleans_step(state, frame, value):
    state.events.append(("clean", told_value(value)))
    state.frames.pop()
    _, wards, term, scope = frame
    clean(state, wards, term, scope)


def waits_step(state, frame, value):
    state.frames.pop()
    state.go_on(frame[1], value)


STEP_BY_WORD = {
    "call": call_step,
    "let": let_step,
    "op": op_step,
    "if": if_step,
    "first": side_step,
    "second": side_step,
    "ask": ask_step,
    "askof": askof_step,
    "past": same_step,
    "pastof": same_step,
    "handle": then_step,
    "under": then_step,
    "ward": ward_step,
    "cleaned": cleaned_step,
    "cleans": cleans_step,
    "waits": waits_step,
}

"""Writing the rows of a term.

What waits to be written is a list of items (action, what, around, many), the next one last: the action
writes its rows, or lets others wait. Around is a dict that tells of each key how many names stood around
as it was bound, many how many stand around now. A row that tells a place which isn't known yet is None
till it is.
"""

from handledeeds.errors import NoName
from handledeeds.shapes import called_key


class Writer:
    """Rows, as far as they're written, and what waits to be."""

    def __init__(self):
        self.rows = []
        self.waiting = []

    def wait(self, action, what, around, many):
        """This is written ahead of all that waits already."""
        self.waiting.append((action, what, around, many))

    def wait_term(self, term, around, many):
        """A term is, likewise."""
        self.waiting.append((WRITERS[term[0]], term, around, many))

    def left_out(self):
        """The number of the next row, which isn't known yet."""
        self.rows.append(None)
        return len(self.rows) - 1


def written(term):
    """The list of the rows of a whole term; NoName of any key that stands for nothing."""
    writer = Writer()
    writer.wait(write_row, ("end",), {}, 0)
    writer.wait_term(term, {}, 0)
    while writer.waiting:
        action, what, around, many = writer.waiting.pop()
        action(writer, what, around, many)
    return writer.rows


def further_in(key, around, many):
    """How many of the names that stand around stand further in than the one that's meant; NoName."""
    if key not in around:
        raise NoName(key)
    return many - 1 - around[key]


def write_row(writer, row, around, many):
    writer.rows.append(row)


def write_name(writer, term, around, many):
    writer.rows.append(("get", further_in(term[1], around, many)))


def write_fun(writer, term, around, many):
    row = writer.left_out()
    writer.wait(end_fun, (row, term[0]), around, many)
    if term[0] == "fun":
        writer.wait_term(term[2], {**around, term[1]: many}, many + 1)
    else:
        writer.wait_term(term[3], {**around, term[1]: many, term[2]: many + 1}, many + 2)


def end_fun(writer, what, around, many):
    row, word = what
    writer.rows.append(("back",))
    writer.rows[row] = (word, len(writer.rows))


def write_of_two(writer, term, around, many):
    first, second = term[-2:]
    writer.wait(write_row, term[:-2], around, many)
    writer.wait_term(second, around, many)
    writer.wait_term(first, around, many)


def write_of_one(writer, term, around, many):
    writer.wait(write_row, term[:-1], around, many)
    writer.wait_term(term[-1], around, many)


def write_let(writer, term, around, many):
    _, x, made, then = term
    writer.wait(write_row, ("unname",), around, many)
    writer.wait_term(then, {**around, x: many}, many + 1)
    writer.wait(write_row, ("name",), around, many)
    writer.wait_term(made, around, many)


def write_if(writer, term, around, many):
    writer.wait(choose, term, around, many)
    writer.wait_term(term[1], around, many)


def choose(writer, term, around, many):
    writer.wait(choose_other, (writer.left_out(), term[3]), around, many)
    writer.wait_term(term[2], around, many)


def choose_other(writer, what, around, many):
    row, other = what
    writer.wait(end_if, writer.left_out(), around, many)
    writer.rows[row] = ("ifno", len(writer.rows))
    writer.wait_term(other, around, many)


def end_if(writer, row, around, many):
    writer.rows[row] = ("to", len(writer.rows))


def write_askof(writer, term, around, many):
    _, called, deed, handed = term
    writer.wait(write_row, ("askof", further_in(called_key(called), around, many), deed), around, many)
    writer.wait_term(handed, around, many)


def write_past(writer, term, around, many):
    writer.rows.append(term[:2])
    writer.wait(write_row, ("unpast",), around, many)
    writer.wait_term(term[2], around, many)


def write_pastof(writer, term, around, many):
    writer.rows.append(("pastof", further_in(called_key(term[1]), around, many)))
    writer.wait(write_row, ("unpast",), around, many)
    writer.wait_term(term[2], around, many)


def write_ward(writer, term, around, many):
    writer.wait(guard, (writer.left_out(), term[1]), around, many)
    writer.wait_term(term[2], around, many)


def guard(writer, what, around, many):
    row, guarded = what
    writer.rows.append(("back",))
    writer.rows[row] = ("ward", len(writer.rows))
    writer.wait(write_row, ("unward",), around, many)
    writer.wait_term(guarded, around, many)


def write_answerer(writer, term, around, many):
    row = writer.left_out()
    x, then = term[3]
    writer.wait(answer_on, (row, term, ()), around, many)
    writer.wait_term(then, {**around, x: many}, many + 1)


def answer_on(writer, what, around, many):
    """Behind U, or a V: the next V, or T. Of the clauses ahead their rows' clauses are told."""
    row, term, clauses = what
    writer.rows.append(("back",))
    at = len(writer.rows)
    if len(clauses) == len(term[4]):
        answer_at(writer, (row, term, clauses), around, many)
        return
    deed, how, x, k, body = term[4][len(clauses)]
    writer.wait(answer_on, (row, term, (*clauses, (deed, how, at))), around, many)
    if how == "many":
        writer.wait_term(body, {**around, x: many, k: many + 1}, many + 2)
    else:
        writer.wait_term(body, {**around, x: many}, many + 1)


def answer_at(writer, what, around, many):
    """T of an answerer, its clauses being written."""
    row, term, clauses = what
    under = term[0] == "under"
    way = "under" if under else term[1]
    writer.wait(end_answerer, (row, ("handle", way, row + 1, clauses, len(writer.rows))), around, many)
    if under:
        writer.wait_term(term[2], {**around, called_key(term[1]): many}, many + 1)
    else:
        writer.wait_term(term[2], around, many)


def end_answerer(writer, what, around, many):
    row, told = what
    writer.rows.append(("leave",))
    writer.rows[row] = (*told, len(writer.rows))


WRITERS = {
    "num": write_row,
    "name": write_name,
    "fun": write_fun,
    "rec": write_fun,
    "call": write_of_two,
    "let": write_let,
    "op": write_of_two,
    "if": write_if,
    "two": write_of_two,
    "first": write_of_one,
    "second": write_of_one,
    "ask": write_of_one,
    "askof": write_askof,
    "past": write_past,
    "pastof": write_pastof,
    "handle": write_answerer,
    "under": write_answerer,
    "ward": write_ward,
}

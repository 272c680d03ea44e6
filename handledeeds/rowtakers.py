"""Reading rows one by one.

Each of these tells whether its row, which by itself is one, may stand at its number behind what's read;
it's read then.
"""


def takes(reader, at, row):
    """Likewise of any row."""
    while reader.opened and reader.opened[-1].until == "" and reader.opened[-1].at == at:
        if not reader.has(1):
            return False
        reader.close(("if",), 3)
    if not reader.opened:
        return False
    taker = TAKERS[row[0]]
    return taker(reader, at, row)


def take_num(reader, at, row):
    return reader.make(row, 0)


def take_get(reader, at, row):
    return reader.means(row[1], "name") and reader.make(("name", reader.called(row[1])), 0)


def take_two(reader, at, row):
    return reader.has_some(2) and reader.make(row, 2)


def take_one(reader, at, row):
    return reader.has_some(1) and reader.make(row, 1)


def take_askof(reader, at, row):
    if not reader.has_some(1) or not reader.means(row[1], "answerer"):
        return False
    return reader.make(("askof", reader.called(row[1]), row[2]), 1)


def take_fun(reader, at, row):
    return reader.begin(row, "back", ["name"] if row[0] == "fun" else ["name", "name"])


def take_name(reader, at, row):
    return reader.has_some(1) and reader.begin(row, "unname", ["name"])


def take_ifno(reader, at, row):
    return reader.has_some(1) and reader.begin(row, "to", [])


def take_past(reader, at, row):
    return reader.begin(row, "unpast", [])


def take_pastof(reader, at, row):
    return reader.means(row[1], "answerer") and reader.begin(("pastof", reader.called(row[1])), "unpast", [])


def take_ward(reader, at, row):
    return reader.begin(row, "back", [])


def take_handle(reader, at, row):
    return row[2] == at + 1 and reader.begin(row, "back", ["name"])


def ends(reader, word):
    """Whether the part that's read now is whole, and ends with this word."""
    return reader.opened[-1].until == word and reader.has(1)


def take_unname(reader, at, row):
    return ends(reader, "unname") and reader.close(("let", *reader.opened[-1].bound), 2)


def take_to(reader, at, row):
    opened = reader.opened[-1]
    if not ends(reader, "to") or opened.row[1] != at + 1:
        return False
    opened.at = row[1]
    return reader.go_on("", [])


def take_unpast(reader, at, row):
    return ends(reader, "unpast") and reader.close(reader.opened[-1].row, 1)


def take_unward(reader, at, row):
    if not ends(reader, "unward"):
        return False
    # U is read ahead of T.
    cleaning, guarded = reader.whole[-2:]
    reader.whole[-2:] = [guarded, cleaning]
    return reader.close(("ward",), 2)


def take_back(reader, at, row):
    if not ends(reader, "back"):
        return False
    opened = reader.opened[-1]
    word = opened.row[0]
    if word == "handle":
        return goes_on_in_answerer(reader, at + 1, opened)
    if opened.row[1] != at + 1:
        return False
    if word == "ward":
        return reader.go_on("unward", [])
    return reader.close((word, *opened.bound), 1)


def goes_on_in_answerer(reader, behind, opened):
    """Whether U or a V of an answerer may end ahead of this row; what's next may be read, then."""
    _, way, _, clauses, at, _ = opened.row
    done = len(opened.parts)
    part = reader.whole.pop()
    if done == 0:
        opened.parts.append((opened.bound[0], part))
    else:
        deed, how, _ = clauses[done - 1]
        x, k = opened.bound if how == "many" else (opened.bound[0], "")
        opened.parts.append((deed, how, x, k, part))
    if done == len(clauses):
        return at == behind and reader.go_on("leave", ["answerer"] if way == "under" else [])
    _, how, place = clauses[done]
    return place == behind and reader.go_on("back", ["name", "name"] if how == "many" else ["name"])


def take_leave(reader, at, row):
    opened = reader.opened[-1]
    if not ends(reader, "leave") or opened.row[5] != at + 1:
        return False
    then, *clauses = opened.parts
    body = reader.whole.pop()
    head = ("under", *opened.bound) if opened.row[1] == "under" else ("handle", opened.row[1])
    return reader.close((*head, body, then, tuple(clauses)), 0)


def take_end(reader, at, row):
    if not ends(reader, "end"):
        return False
    reader.opened.pop()
    return True


TAKERS = {
    "num": take_num,
    "get": take_get,
    "fun": take_fun,
    "rec": take_fun,
    "back": take_back,
    "call": take_two,
    "name": take_name,
    "unname": take_unname,
    "op": take_two,
    "ifno": take_ifno,
    "to": take_to,
    "two": take_two,
    "first": take_one,
    "second": take_one,
    "ask": take_one,
    "askof": take_askof,
    "past": take_past,
    "pastof": take_pastof,
    "unpast": take_unpast,
    "ward": take_ward,
    "unward": take_unward,
    "handle": take_handle,
    "leave": take_leave,
    "end": take_end,
}

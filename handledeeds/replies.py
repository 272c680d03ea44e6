"""What may be answered from without."""

from handledeeds.limits import ANSWER_DEPTH
from handledeeds.limits import TOP_NUMBER


def is_reply(thing, kind):
    """Whether a thing, whatever it is, is of a KIND of numbers and pairs."""
    waiting = [(thing, kind)]
    while waiting:
        part, wanted = waiting.pop()
        if wanted == "number":
            if not is_number(part):
                return False
        elif not is_pair(part):
            return False
        else:
            waiting.extend([(part[0], wanted[1]), (part[1], wanted[2])])
    return True


def is_answer(thing):
    """Whether a thing, whatever it is, may be answered: a number, or a pair of such, not too deep."""
    waiting = [(thing, 1)]
    while waiting:
        part, depth = waiting.pop()
        if depth > ANSWER_DEPTH:
            return False
        if is_pair(part):
            waiting.extend([(part[0], depth + 1), (part[1], depth + 1)])
        elif not is_number(part):
            return False
    return True


def is_number(thing):
    """Whether a thing is one of the numbers of programs."""
    return type(thing) is int and 0 <= thing <= TOP_NUMBER


def is_pair(thing):
    """Whether a thing is a pair of whatever."""
    return type(thing) is tuple and len(thing) == 2


def reply_kind(sheet, deed):
    """The KIND of what a deed of the sheet is answered."""
    return [answered for name, _, answered in sheet if name == deed][0]

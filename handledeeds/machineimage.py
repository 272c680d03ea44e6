"""Images of machines.

An image is (most, at, status, counters, events, still, things). Of the things it has just those that are
mentioned, each once, and their numbers are anew: in the order in which they're first mentioned, in what's
still to do, then in the things themselves.
"""

from handledeeds.things import MARK


def image_of(state):
    """The image of a machine's state: all of it but the rows."""
    (scope, stack, answerers, pasts), things = state.rest()
    teller = ImageTeller(things)
    still = (teller.told_scope(scope), teller.told_stack(stack), teller.told_answerers(answerers), pasts)
    head = state.head()
    return (*head, still, teller.told_things())


def stand_as(state, image):
    """From now on a state is as the one of this image."""
    state.take_head(image[:5])
    state.take_rest(image[5:])


class ImageTeller:
    """Tells what has marks in it, these being anew."""

    def __init__(self, things):
        self.things = things
        # By the numbers that the things had: their marks, None of what isn't mentioned so far.
        self.marks = [None] * len(things)
        # The numbers that they had, in the order of those that they have now.
        self.found = []
        # By their first entries: the stacks that were told last, and what was told.
        self.stacks = {}

    def mark(self, number):
        """The mark of a thing that is first mentioned."""
        self.marks[number] = (MARK, len(self.found))
        self.found.append(number)
        return self.marks[number]

    def told_scope(self, scope):
        """VALUEs, and numbers of unders."""
        marks = self.marks
        return tuple([value if type(value) is int else marks[value[1]] or self.mark(value[1]) for value in scope])

    def told_stack(self, stack):
        """VALUEs and frames."""
        if len(stack) < 3:
            return self.told_entries(stack)
        # What was kept many times is the same up to where it was gone on with.
        last, told = self.stacks.get(stack[0], ((), ()))
        alike = alike_so_far(stack, last)
        self.stacks[stack[0]] = (stack, told[:alike] + self.told_entries(stack[alike:]))
        return self.stacks[stack[0]][1]

    def told_entries(self, entries):
        """Likewise, one by one."""
        told = []
        for entry in entries:
            if type(entry) is int:
                told.append(entry)
            elif entry[0] == "back":
                told.append(("back", entry[1], self.told_scope(entry[2])))
            else:
                told.append(self.told_part(entry))
        return tuple(told)

    def told_part(self, part):
        """Anything that has VALUEs in it."""
        if type(part) is not tuple:
            return part
        if len(part) == 2 and part[0] == MARK:
            return self.marks[part[1]] or self.mark(part[1])
        return tuple([self.told_part(within) for within in part])

    def told_answerers(self, answerers):
        """Rows of answerers."""
        return tuple([(row, self.told_scope(scope), under, base) for row, scope, under, base in answerers])

    def told_things(self):
        """The things that are mentioned, those mentioned in these, too."""
        told = []
        while len(told) < len(self.found):
            form, fields = self.things[self.found[len(told)]]
            if form == "held":
                stack, answerers, pasts, at, scope = fields
                begun = (self.told_stack(stack), self.told_answerers(answerers))
                told.append((form, (*begun, pasts, at, self.told_scope(scope))))
            elif form == "pair":
                told.append((form, self.told_part(fields)))
            else:
                told.append((form, (fields[0], self.told_scope(fields[1]))))
        return tuple(told)


def alike_so_far(row, other):
    """How many things two rows have alike, from the first one on."""
    alike = 0
    most = min(len(row), len(other))
    if row[:most] == other[:most]:
        return most
    # Up to alike they are, up to most they aren't.
    while most - alike > 1:
        middle = (alike + most) // 2
        if row[alike:middle] == other[alike:middle]:
            alike = middle
        else:
            most = middle
    return alike

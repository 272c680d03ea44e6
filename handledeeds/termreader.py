"""Reading a TERM's text word by word, as deep as it may go."""

from handledeeds.limits import OPS
from handledeeds.limits import TERM_CLAUSES
from handledeeds.limits import TOP_NUMBER
from handledeeds.limits import WAYS
from handledeeds.words import is_figures
from handledeeds.words import is_name

# What follows the word with which a TERM begins. An "unlike" is a name that isn't the one just
# ahead of it; a "count" is followed by as many clauses, each begun by its "how".
TEXTS = {
    "fun": ("name", "term"),
    "rec": ("name", "unlike", "term"),
    "call": ("term", "term"),
    "let": ("name", "term", "term"),
    "plus": ("term", "term"),
    "less": ("term", "term"),
    "times": ("term", "term"),
    "below": ("term", "term"),
    "if": ("term", "term", "term"),
    "two": ("term", "term"),
    "first": ("term",),
    "second": ("term",),
    "ask": ("name", "term"),
    "askof": ("name", "name", "term"),
    "past": ("name", "term"),
    "pastof": ("name", "term"),
    "deep": ("term", "name", "term", "count"),
    "shallow": ("term", "name", "term", "count"),
    "under": ("name", "term", "name", "term", "count"),
    "ward": ("term", "term"),
}

CLAUSES = {
    "many": ("deed", "name", "unlike", "term"),
    "quick": ("deed", "name", "term"),
    "end": ("deed", "name", "term"),
}

# Clauses rise by deeds, and so no text goes on behind a deed above which too few NAMEs are left:
# the highest deed of a clause, by how many are still to come.
HIGHEST_DEEDS = ("zzzzzz", "zzzzzy", "zzzzzx", "zzzzzw")


class Begun:
    """A TERM of which the first word is read, and not yet the last one."""

    def __init__(self, word):
        self.word = word
        self.read = []
        # Turned round: what is wanted next stands last.
        self.wants = list(TEXTS[word][::-1])
        self.deed = ""

    def lets(self, word):
        """Whether a word may stand here, where no TERM is wanted next."""
        wanted = self.wants[-1]
        if wanted == "count":
            return is_figures(word, TERM_CLAUSES)
        if wanted == "how":
            return word in CLAUSES and not (word == "quick" and self.word == "shallow")
        if not is_name(word):
            return False
        if wanted == "deed":
            return self.deed < word <= HIGHEST_DEEDS[self.wants.count("how")]
        return wanted == "name" or word != self.read[-1]

    def take(self, word):
        """Take a word that may stand here."""
        wanted = self.wants.pop()
        self.read.append(word)
        if wanted == "count":
            self.wants.extend(["how"] * int(word))
        elif wanted == "how":
            self.wants.extend(list(CLAUSES[word][::-1]))
        elif wanted == "deed":
            self.deed = word

    def take_term(self, term):
        """Take a whole TERM, where one is wanted next."""
        self.wants.pop()
        self.read.append(term)

    def term(self):
        """The TERM, of which nothing is wanted any more."""
        if self.word in OPS:
            return ("op", self.word, *self.read)
        if self.word in WAYS:
            return ("handle", self.word, *answerer_fields(self.read))
        if self.word == "under":
            return ("under", self.read[0], *answerer_fields(self.read[1:]))
        return (self.word, *self.read)


def answerer_fields(told):
    """The fields T, (x, U), clauses of an answerer, of what was read from T on."""
    clauses = []
    at = 4
    while at < len(told):
        how, deed, x = told[at:at + 3]
        at += 3
        k = ""
        if how == "many":
            k = told[at]
            at += 1
        clauses.append((deed, how, x, k, told[at]))
        at += 1
    return [told[0], (told[1], told[2]), tuple(clauses)]


class Reader:
    """What is read of a text: the TERMs begun, the innermost one last, or the whole TERM."""

    def __init__(self):
        self.begun = []
        self.whole = None

    def takes(self, word):
        """Whether some text goes on with this word behind what's read; it's read then."""
        if self.whole is not None:
            return False
        if not self.begun or self.begun[-1].wants[-1] == "term":
            return self.begins(word)
        last = self.begun[-1]
        if not last.lets(word):
            return False
        last.take(word)
        # It ends with a word where it is an answerer of no clauses.
        if not last.wants:
            self.begun.pop()
            self.ends(last.term())
        return True

    def begins(self, word):
        """Whether a TERM begins with this word; it's read then."""
        if is_figures(word, TOP_NUMBER):
            self.ends(("num", int(word)))
        elif is_name(word):
            self.ends(("name", word))
        elif word in TEXTS:
            self.begun.append(Begun(word))
        else:
            return False
        return True

    def ends(self, term):
        """Hand a TERM that is read whole to the one around it, and so on where that ends too."""
        while self.begun:
            around = self.begun[-1]
            around.take_term(term)
            if around.wants:
                return
            self.begun.pop()
            term = around.term()
        self.whole = term

"""The words and the bounds that all of the package shares."""

KEYWORDS = (
    "fun", "rec", "call", "let", "plus", "less", "times", "below", "if", "two", "first", "second",
    "ask", "askof", "past", "pastof", "deep", "shallow", "under", "many", "quick", "end", "ward",
    "number", "pair",
)

OPS = ("plus", "less", "times", "below")

WAYS = ("deep", "shallow")

MOST = 100

STEPS = 1000

NAME_SIGNS = 6

TOP_NUMBER = 996

TERM_PARTS = 120

TERM_DEPTH = 20

TERM_CLAUSES = 4

"""The words and the bounds that all of the package shares."""

KEYWORDS = (
    "fun", "rec", "call", "let", "plus", "less", "times", "below", "if", "two", "first", "second",
    "ask", "askof", "past", "pastof", "deep", "shallow", "under", "many", "quick", "end", "ward",
    "number", "pair",
)

OPS = ("plus", "less", "times", "below")

WAYS = ("deep", "shallow")

MOST = 100

STEPS = 1000

NAME_SIGNS = 6

TOP_NUMBER = 996

TERM_PARTS = 120

TERM_DEPTH = 20

TERM_CLAUSES = 4

KIND_PARTS = 40

KIND_DEPTH = 8

KIND_LABELS = 8

TOP_OPEN = 999

SHEET_DEEDS = 6

SHEET_DEPTH = 4

# Numbers are told by the rest by this one.
MODULUS = 997

PAIR_PARTS = 60

# Python may go this deep into tuples by calls within calls.
NOT_DEEP = 200

TREE_PARTS = 300

TREE_DEPTH = 40

ANSWER_DEPTH = 4

HOUSE_PROGRAMS = 10

HOUSE_RUNS = 5

ROW_DEEDS = 12

# Rows of deeds within one another, the outermost one counted.
ROW_DEPTH = 3

DESK_ROWS = 40

DESK_SIGNS = 400

# Of a number in a row of a desk.
DESK_FIGURES = 4

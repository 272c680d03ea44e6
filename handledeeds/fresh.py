"""Names that stand for nothing yet."""

LETTERS = "abcdefghijklmnopqrstuvwxyz"


def fresh_name(sign, used):
    """The first name that isn't used, of the sign with one letter behind it, then of it with two."""
    for begun in [sign, *[sign + letter for letter in LETTERS]]:
        for letter in LETTERS:
            if begun + letter not in used:
                return begun + letter
    return ""

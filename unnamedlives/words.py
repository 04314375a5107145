"""Names and reserved words."""

RESERVED = (
    "fun", "out", "use", "val", "ref", "set", "block", "if", "else", "loop", "end", "part", "pick", "then", "dead",
)
MOST_CHARACTERS = 8
# Written out, because Python's own tests for letters and digits also take those that are not ASCII.
LETTERS = "abcdefghijklmnopqrstuvwxyz"
DIGITS = "0123456789"


def is_name(text):
    """True if the text is a name, False for every other argument."""
    if not isinstance(text, str) or not 1 <= len(text) <= MOST_CHARACTERS:
        return False
    if text[0] not in LETTERS or text in RESERVED:
        return False
    return all([sign in LETTERS or sign in DIGITS for sign in text])

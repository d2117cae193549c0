"""Words of a text, and numbers written as words."""

from teefloors.errors import BadText

FIGURES = "0123456789"
WORD_SIGNS = "abcdefghijklmnopqrstuvwxyz0123456789-"
MOST_FIGURES = 12


def words(text):
    """The pairs (word, line) of the text; BadText(line) for a sign of no word."""
    found = []
    for line, row in enumerate(text.split("\n")):
        told = row.partition("#")[0]
        if not all([sign == " " or sign in WORD_SIGNS for sign in told]):
            raise BadText(line)
        found.extend([(word, line) for word in told.split(" ") if word != ""])
    return found


def text_of(words):
    """The text that has each of these words in its line."""
    rows = []
    for word, line in words:
        while len(rows) <= line:
            rows.append([])
        rows[line].append(word)
    return "".join([" ".join(row) + "\n" for row in rows])


def number_of(word):
    """The number that this number word tells; None if it is no number word."""
    figures = word[1:] if word[:1] == "-" else word
    if not 1 <= len(figures) <= MOST_FIGURES:
        return None
    if not all([figure in FIGURES for figure in figures]):
        return None
    if figures[0] == "0" and word != "0":
        return None
    return int(word)


def word_of(number):
    """The number word of this number."""
    return str(number)

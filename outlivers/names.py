"""What a name is, and how names and numbers are written and read in rows and lines."""

LETTERS = "abcdefghijklmnopqrstuvwxyz"
FIGURES = "0123456789"
MOST_LETTERS = 8
MOST_FIGURES = 10


def is_name(text):
    """True where a text is 1 to 8 small letters."""
    return 1 <= len(text) <= MOST_LETTERS and all([sign in LETTERS for sign in text])


def is_number(text):
    """True where a text is one to ten figures, the first no nought but in nought itself."""
    if len(text) < 1 or len(text) > MOST_FIGURES:
        return False
    if not all([sign in FIGURES for sign in text]):
        return False
    return text == "0" or text[0] != "0"


def thing_of(kind, word):
    """What a word tells where a word of a kind is asked for, None where it is none of that kind."""
    if kind == "number":
        return int(word) if is_number(word) else None
    if kind == "name":
        return word if is_name(word) else None
    # Any word will do, but an empty one is none.
    return word if word != "" else None


def things_of(kinds, words):
    """What words of so many kinds tell, None where there are more or fewer, or one is none of its kind."""
    if len(words) != len(kinds):
        return None
    things = [thing_of(kind, word) for kind, word in zip(kinds, words)]
    return None if None in things else things


def numbers_of(words):
    """The numbers that words tell, None where one is no number."""
    return things_of(["number"] * len(words), words)


def written(things):
    """A row of words: texts and numbers with one blank between."""
    return " ".join([str(thing) for thing in things])


def names_text(names):
    """Names with a blank between, and a word for none at all."""
    return " ".join(names) if names else "none"

"""Bodies and houses, read."""

from dueworth.errors import BadText
from dueworth.fractions import read_from_nought_on
from dueworth.words import is_name

# What comes behind each head within its brackets.
FORMS = {
    "pay": ("cost",),
    "put": ("name", "things"),
    "then": ("body", "body"),
    "either": ("body", "body"),
    "take": ("name", "things", "body", "body"),
    "often": ("body",),
    "use": ("name",),
}


def read_name(word):
    """The name that a word is, or BadText."""
    if not is_name(word):
        raise BadText(0)
    return word


def read_things(word):
    """The number of things, from 1 to 9, that a word writes, or BadText."""
    if len(word) != 1 or word not in "123456789":
        raise BadText(0)
    return int(word)


def read_word(kind, word):
    """What a word writes where a cost, a name or a number of things is due, or BadText."""
    if kind == "cost":
        return read_from_nought_on(word)
    if kind == "things":
        return read_things(word)
    return read_name(word)


def split_words(text):
    """The words and brackets of a body's text."""
    # Parted by every blank, a blank too many leaves an empty word behind, which is refused wherever it stands.
    return text.replace("(", "( ").replace(")", " )").split(" ")


def word_at(words, place):
    """The word at a place; behind the last one the empty word, which no text has anywhere."""
    if place < len(words):
        return words[place]
    return ""


def read_part(words, place):
    """The body whose words begin at a place, and the place behind them, or BadText."""
    if word_at(words, place) == "rest":
        return (("rest",), place + 1)
    head = word_at(words, place + 1)
    if word_at(words, place) != "(" or head not in FORMS:
        raise BadText(0)
    found = [head]
    place = place + 2
    for kind in FORMS[head]:
        if kind == "body":
            side = read_part(words, place)
            found.append(side[0])
            place = side[1]
        else:
            found.append(read_word(kind, word_at(words, place)))
            place = place + 1
    if word_at(words, place) != ")":
        raise BadText(0)
    return (tuple(found), place + 1)


def read_body(text):
    """The body that a text writes, or BadText."""
    words = split_words(text)
    whole_body = read_part(words, 0)
    if whole_body[1] != len(words):
        raise BadText(0)
    return whole_body[0]


def read_jars(row):
    """The jars that a house's first row writes, or BadText."""
    words = row.split(" ")
    if words[0] != "jars":
        raise BadText(0)
    return tuple([read_name(word) for word in words[1:]])


def read_deed(row):
    """The deed that a row writes, or BadText."""
    words = row.split(" ")
    if word_at(words, 0) != "deed" or word_at(words, 2) != ":":
        raise BadText(0)
    return (read_name(words[1]), read_body(" ".join(words[3:])))


def read_house(text):
    """The house that a text writes, or BadText."""
    rows = text.split("\n")
    jars = read_jars(rows[0])
    deeds = []
    for number in range(1, len(rows)):
        try:
            deeds.append(read_deed(rows[number]))
        except BadText:
            raise BadText(number) from None
    if deeds == []:
        raise BadText(1)
    return (jars, tuple(deeds))

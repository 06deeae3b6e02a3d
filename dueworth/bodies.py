"""Bodies: their parts, and the names in them."""

# The place from which on the bodies right within a body stand; bodies of other heads hold none.
SIDES_FROM = {"then": 1, "either": 1, "take": 3, "often": 1}


def sides_of(body):
    """The bodies right within a body, from the left."""
    return body[SIDES_FROM.get(body[0], len(body)):]


def parts_in(body):
    """All bodies in a body as they stand from the left, itself first."""
    found = [body]
    for side in sides_of(body):
        found.extend(parts_in(side))
    return found


def changed(body, change):
    """A body with each of its parts changed, those within a part ahead of it."""
    sides = sides_of(body)
    words = body[:len(body) - len(sides)]
    return change(words + tuple([changed(side, change) for side in sides]))


def parts(body):
    """How many bodies are in a body, itself too."""
    return len(parts_in(body))


def within(body):
    """How many parts of a body stand one within another, itself too."""
    return 1 + max([within(side) for side in sides_of(body)], default=0)


def names_in(body, heads):
    """The names in the parts of some heads, rising, each once."""
    return sorted(set([part[1] for part in parts_in(body) if part[0] in heads]))


def jars_in(body):
    """The names of the jars of a body, rising, each once."""
    return names_in(body, ("put", "take"))


def uses_in(body):
    """The names of the deeds that a body uses, rising, each once."""
    return names_in(body, ("use",))

"""Houses and users, looked at."""

from dueworth.bodies import parts_in
from dueworth.errors import NoHouse


def refuse_twice(name, ahead):
    """NoHouse where a name is among those ahead of it."""
    if name in ahead:
        raise NoHouse("twice", name)


def refuse_meeting(names, others):
    """NoHouse with the first of some names that is among others."""
    for name in names:
        if name in others:
            raise NoHouse("meets", name)


def refuse_part(part, jars, usable):
    """NoHouse where a part has a jar that isn't there or a use that may not be; usable None lets none be."""
    if part[0] in ("put", "take") and part[1] not in jars:
        raise NoHouse("unknown", part[1])
    if part[0] == "use" and usable is None:
        raise NoHouse("use", part[1])
    if part[0] == "use" and part[1] not in usable:
        raise NoHouse("unknown", part[1])


def look_with(house, usable):
    """True, or NoHouse, of a house whose bodies may use deeds of some names, or none where usable is None."""
    jars = house[0]
    for number, jar in enumerate(jars):
        refuse_twice(jar, jars[:number])
    ahead = []
    for deed in house[1]:
        refuse_twice(deed[0], ahead)
        ahead.append(deed[0])
        for part in parts_in(deed[1]):
            refuse_part(part, jars, usable)
    return True


def look(house):
    """True where a house is let by, else NoHouse."""
    return look_with(house, None)


def look_user(user, house):
    """True where a user of a house's deeds is let by, else NoHouse."""
    refuse_meeting(user[0], house[0])
    return look_with(user, [deed[0] for deed in house[1]])

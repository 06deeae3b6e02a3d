"""Users of another house's deeds, made houses by themselves."""

from dueworth.bodies import changed


def deeds_without_uses(user, bodies):
    """The deeds of a user with a body, by the used name, in the place of each use."""

    def without_use(part):
        return bodies[part[1]] if part[0] == "use" else part

    return tuple([(deed[0], changed(deed[1], without_use)) for deed in user[1]])


def priced(user, prices):
    """A user with a pay in the place of each use, its cost by pairs (name, fraction)."""
    pays = dict([(name, ("pay", cost)) for name, cost in prices])
    return (user[0], deeds_without_uses(user, pays))


def joined(user, house):
    """A user and the house whose deeds it uses as one: the body of the deed in the place of each use."""
    return (user[0] + house[0], deeds_without_uses(user, dict(house[1])))

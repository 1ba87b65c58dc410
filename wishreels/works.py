"""The works of wishes: what each step does to a stand, laid out ahead of the steps."""

from wishreels.kinds import is_integer, is_integer_tuple, is_tuple_of, replaced
from wishreels.takings import GOAL_WAY, is_taking


class Works:
    """Wishes with their lines and steps. Works never change.

    steps: the list of the steps. places: a dict from each line to its place among the lines.
    heard: for each line the list of the ways that it can have, but for (). offers: for each
    router the list of the pairs (way, place of the line by which it is heard), the place None
    for a way that leads to the goal at once.
    """

    def __init__(self, wishes):
        pairs = wishes.lines()
        self.wishes = wishes
        self.places = {pair: place for place, pair in enumerate(pairs)}
        self.heard = [heard_ways(wishes, pair) for pair in pairs]
        self.offers = [offered(wishes, router, self.places) for router in range(wishes.size)]
        tells = [("tell", teller, hearer) for teller, hearer in pairs]
        self.steps = tells + [("choose", router) for router in range(1, wishes.size)]


def heard_ways(wishes, pair):
    """The list of the rests of the let ways for which the line is there."""
    return [way[1:] for way in wishes.ways(pair[1]) if way[1] == pair[0]]


def offered(wishes, router, places):
    """The list of the pairs (way, place) of a router, the most wished way first."""
    return [(way, places.get((way[1], router))) for way in wishes.ways(router)]


def first_stand(works):
    """The begin."""
    takes = (GOAL_WAY,) + ((),) * (works.wishes.size - 1)
    return (takes, ((),) * len(works.heard))


def is_stand_of(works, thing):
    """Whether a thing is a stand."""
    if not is_tuple_of(2, thing) or not is_taking(works.wishes, thing[0]):
        return False
    if not is_tuple_of(len(works.heard), thing[1]):
        return False
    return all([is_heard(ways, item) for ways, item in zip(works.heard, thing[1])])


def is_heard(ways, thing):
    """Whether a thing is what a line has that can have these ways."""
    return is_integer_tuple(thing) and (thing == () or thing in ways)


def is_step_of(works, thing):
    """Whether a thing is a step."""
    if not isinstance(thing, tuple) or len(thing) < 2 or not isinstance(thing[0], str):
        return False
    return all([is_integer(item) for item in thing[1:]]) and thing in works.steps


def changed(works, stand, step):
    """The stand behind a step, or None if the step does not change the stand."""
    takes, told = stand
    if step[0] == "tell":
        place = works.places[step[1:]]
        heard = takes[step[1]] if takes[step[1]] in works.heard[place] else ()
        return None if told[place] == heard else (takes, replaced(told, place, heard))
    router = step[1]
    taken = most_wished(works.offers[router], told)
    return None if takes[router] == taken else (replaced(takes, router, taken), told)


def most_wished(offers, told):
    """The first way that leads to the goal at once or whose rest was told, or ()."""
    for way, place in offers:
        if place is None or told[place] == way[1:]:
            return way
    return ()


def after(works, stand, step):
    """The stand behind a step, the same one if the step does not change it."""
    later = changed(works, stand, step)
    return stand if later is None else later


def due_steps(works, stand):
    """The list of the steps that change a stand, in order."""
    return [step for step in works.steps if changed(works, stand, step) is not None]


def first_due(works, stand):
    """The first step that changes a stand, or None if it is at rest."""
    for step in works.steps:
        if changed(works, stand, step) is not None:
            return step
    return None

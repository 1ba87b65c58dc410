"""Papers that show that each fair order settles, or that one does not."""

from wishreels.kinds import is_integer, is_tuple_of
from wishreels.standgraph import Knots, reached_graph
from wishreels.works import Works, after, changed, due_steps, first_stand, is_stand_of, is_step_of


def endless(wishes):
    """A round paper, or None if each fair order settles."""
    knots = Knots(reached_graph(wishes))
    group = knots.first_endless()
    if group is None:
        return None
    listed = knots.graph.works.steps
    first = group[0]
    ahead = tuple([listed[place] for place in places_to(knots.graph, first)])
    return (ahead, tuple([listed[place] for place in places_around(knots, first)]))


def places_to(graph, number):
    """The places of the steps that lead from the begin to a stand."""
    places = []
    while graph.came[number] is not None:
        number, place = graph.came[number]
        places.append(place)
    return places[::-1]


def places_around(knots, first):
    """The places of steps from a stand back to it, within its knot, all steps among them.

    Some of them change the stand: of the steps that lead from it to others of the knot one
    is done there, unless the stand was left already.
    """
    group = knots.groups[knots.home[first]]
    row = []
    here = first
    for place in range(len(knots.graph.works.steps)):
        if place not in row:
            goals = {number: True for number in group if knots.stays(number, place)}
            more = places_within(knots, here, goals) + [place]
            here = number_behind(knots.graph, here, more)
            row += more
    return row + places_within(knots, here, {first: True})


def number_behind(graph, number, places):
    """The number of the stand behind steps from a stand."""
    for place in places:
        number = graph.moves[number][place]
    return number


def places_within(knots, first, goals):
    """The places of the fewest steps, within a knot, from a stand to one of the goals."""
    trails = {first: []}
    queue = [first]
    looked = 0
    while queue[looked] not in goals:
        here = queue[looked]
        for place, later in enumerate(knots.graph.moves[here]):
            if later not in trails and knots.stays(here, place):
                trails[later] = trails[here] + [place]
                queue.append(later)
        looked += 1
    return trails[queue[looked]]


def is_endless(wishes, thing):
    """Whether a thing is a round paper."""
    works = Works(wishes)
    if not is_tuple_of(2, thing) or not is_step_tuple(works, thing[0]) or not is_step_tuple(works, thing[1]):
        return False
    if not all([step in thing[1] for step in works.steps]):
        return False
    first = first_stand(works)
    for step in thing[0]:
        first = after(works, first, step)
    here = first
    changes = 0
    for step in thing[1]:
        if changed(works, here, step) is not None:
            changes += 1
        here = after(works, here, step)
    return changes > 0 and here == first


def is_step_tuple(works, thing):
    """Whether a thing is a tuple of steps."""
    return isinstance(thing, tuple) and all([is_step_of(works, step) for step in thing])


def ranks(wishes):
    """A rank paper of the reached stands, or None if some fair order does not settle.

    A later knot has a lesser rank; within a knot, which no fair order can stay in, all stands
    have the step that leads out of it from each of them.
    """
    knots = Knots(reached_graph(wishes))
    if knots.first_endless() is not None:
        return None
    marks = [mark_of(knots, place) for place in range(len(knots.groups))]
    stands = knots.graph.stands
    paper = {stand: marks[home] for stand, home in zip(stands, knots.home)}
    return {stand: paper[stand] for stand in sorted(stands)}


def mark_of(knots, place):
    """The tuple (rank, step) for the stands of the knot at a place."""
    out = knots.way_out(knots.groups[place])
    step = None if out is None else knots.graph.works.steps[out]
    return (len(knots.groups) - 1 - place, step)


def is_ranks(wishes, thing):
    """Whether a thing is a rank paper."""
    works = Works(wishes)
    if not isinstance(thing, dict) or not all([is_stand_of(works, stand) for stand in thing]):
        return False
    if first_stand(works) not in thing or not all([is_mark(works, mark) for mark in thing.values()]):
        return False
    return all([is_ranked(works, thing, stand) for stand in thing])


def is_mark(works, thing):
    """Whether a thing is a tuple of a rank and a step or None."""
    if not is_tuple_of(2, thing) or not is_integer(thing[0]) or thing[0] < 0:
        return False
    return thing[1] is None or is_step_of(works, thing[1])


def is_ranked(works, paper, stand):
    """Whether a stand of a paper has a rank and a step as a rank paper has them."""
    steps_due = due_steps(works, stand)
    rank, step = paper[stand]
    if len(steps_due) == 0:
        return step is None
    for one in steps_due:
        later = changed(works, stand, one)
        if later not in paper or paper[later][0] > rank:
            return False
        if paper[later][0] == rank and (one == step or paper[later][1] != step):
            return False
    return step in steps_due

"""What the tests share: wishes to try, wrong things, and slow second ways to the answers."""

import copy
import itertools
import random

from wishreels.areas import Areas
from wishreels.costs import Costs
from wishreels.desk import Desk
from wishreels.errors import BadWishes, NoRouter
from wishreels.fields import Field
from wishreels.floods import Flood
from wishreels.nets import Net
from wishreels.policies import Policy, Rule
from wishreels.roles import Roles
from wishreels.tables import Table
from wishreels.talks import Talk
from wishreels.wishes import Wishes

SWAP = Wishes(((), ((1, 2, 0), (1, 0)), ((2, 1, 0), (2, 0))))
PLAIN = Wishes(((), ((1, 0),), ((2, 1, 0), (2, 0))))
BAD = Wishes(((), ((1, 2, 0), (1, 0)), ((2, 3, 0), (2, 0)), ((3, 1, 0), (3, 0))))
BARE = Wishes(((), ()))
LONE = Wishes(((), ((1, 0),)))
APART = Wishes(((), ((1, 0),), ((2, 0),), ()))
LONG = Wishes(((), ((1, 0),)) + tuple((tuple(range(v, -1, -1)),) for v in range(2, 8)))


def deep(kind, levels):
    thing = kind()
    for _ in range(levels):
        thing = kind([thing])
    return thing


def wrong_things():
    """Objects of many kinds, none of which is right anywhere but where any object is."""
    return [
        None, True, False, -1, 99, 10 ** 29, -(10 ** 29), "", "1", "tell", "choose", b"", b"\x01\x00",
        bytearray(b"\x01\x00"), memoryview(b"\x01\x00"), [1, 0], [0], [None], {0}, set(), frozenset((1, 0)),
        {(1, 0): 1}, range(2), range(1, -1, -1), object(), int, tuple, len, Ellipsis, NotImplemented, slice(1, 0),
        ValueError("1"), NoRouter(1), BadWishes(1), lambda: (1, 0), iter((1, 0)), enumerate(()), zip(),
        (item for item in (1, 0)), {}.keys(), {1: 0}.items(), property(), (True, 0), (1, False), (True, False),
        (False,), (None,), ("1", "0"), (b"1",), ("1",), (-1,), (99, 0), (1, 99, 0), ((1, 0), 0), (1, (0,)), [(1, 0)],
        [[1, 0]], ((),), ((0,),), ([],), ({},), ({1},), (1, [0]), (1, 0, 0), (1, 1, 0), (0, 1), (1,), (0, 0),
        deep(list, 29), deep(tuple, 29), (deep(list, 28), 0), SWAP, BARE, Talk(SWAP), Wishes, (SWAP,), (SWAP, 0),
        Roles(2, [], []), Rule((), None, None), Policy(()), Net(2, {}), (Rule((), None, None), 0), [Policy(())],
        Flood(2, []), Costs(2, {}), Areas(Costs(1, {}), ((0,),)), Table([]), (Table([]), 0), Field((Table([]),)), Desk(),
        range(10 ** 29), range(-(10 ** 29), 0), {(): {}}, {"0": [0]}, "\ud800", "\n",
    ]


def places(thing, ahead=()):
    """The paths to all parts of a nested tuple, itself first."""
    yield ahead
    if isinstance(thing, tuple):
        for place, item in enumerate(thing):
            yield from places(item, ahead + (place,))


def part_at(thing, path):
    for place in path:
        thing = thing[place]
    return thing


def put_at(thing, path, part):
    if not path:
        return part
    return thing[:path[0]] + (put_at(thing[path[0]], path[1:], part),) + thing[path[0] + 1:]


def spoiled(thing):
    """Things that are like a nested tuple but for one part, which is of a wrong kind or form."""
    for path in places(thing):
        part = part_at(thing, path)
        news = [None, "x", object(), -1, 99, {}, SWAP, [], [part], frozenset(), (None,), ((part,),)]
        if isinstance(part, tuple):
            news += [list(part), part + (None,), part + ((),) * 9, set_of(part), iter(part)]
        if isinstance(part, int) and not isinstance(part, bool) and part in (0, 1):
            news += [bool(part)]
        if isinstance(part, str):
            news += [part.encode(), part.upper(), part + " ", [part], part[:-1]]
        for new in news:
            yield put_at(thing, path, new)


def set_of(part):
    try:
        return frozenset(part)
    except TypeError:
        return frozenset()


def all_ways(size, router):
    """All ways of a router through routers below a size, the shorter ones first."""
    others = [other for other in range(1, size) if other != router]
    middles = [m for many in range(len(others) + 1) for m in itertools.permutations(others, many)]
    return [(router,) + middle + (0,) for middle in middles]


def wishes_with(*numbers):
    """Wishes whose routers, from 1 on, have so many ways: to the goal at once, then longer ones."""
    size = len(numbers) + 1
    lists = [[] for _ in range(size)]
    for length in range(2, 9):
        for router in range(1, size):
            for way in all_ways(size, router):
                let = len(way) == 2 or way[1:] in lists[way[1]]
                if len(way) == length and let and len(lists[router]) < numbers[router - 1]:
                    lists[router].append(way)
    assert [len(ways) for ways in lists[1:]] == list(numbers)
    return Wishes(tuple(tuple(reversed(ways)) for ways in lists))


def tiny_wishes():
    """All wishes of two and of three routers."""
    found = []
    for size in (2, 3):
        columns = []
        for router in range(1, size):
            ways = all_ways(size, router)
            columns.append([row for many in range(len(ways) + 1) for row in itertools.permutations(ways, many)])
        for row in itertools.product(*columns):
            try:
                found.append(Wishes(((),) + row))
            except BadWishes:
                pass
    return found


def some_wishes(seed, many, least, most, ways):
    """Wishes of any kind, the same ones in each run."""
    chance = random.Random(seed)
    return [grown(chance, chance.randint(least, most), ways) for _ in range(many)]


def grown(chance, size, most):
    lists = [[] for _ in range(size)]
    for _ in range(chance.randint(size, 3 * size)):
        router = chance.randrange(1, size)
        rests = [(0,)] + [way for ways in lists for way in ways if router not in way]
        news = [(router,) + rest for rest in rests if (router,) + rest not in lists[router]]
        if news and len(lists[router]) < most:
            lists[router].append(chance.choice(news))
    for ways in lists:
        chance.shuffle(ways)
    return Wishes(tuple(tuple(ways) for ways in lists))


def lists_of(wishes):
    return tuple(wishes.ways(router) for router in range(wishes.size))


def ways_of(wishes):
    return [way for ways in lists_of(wishes) for way in ways]


def takings_of(wishes):
    columns = [[(0,)]] + [list(wishes.ways(router)) + [()] for router in range(1, wishes.size)]
    return list(itertools.product(*columns))


def outcomes_of(wishes):
    """All outcomes, by looking at each taking."""
    found = []
    for taking in takings_of(wishes):
        best = [(0,)]
        for router in range(1, wishes.size):
            free = [way for way in wishes.ways(router) if taking[way[1]] == way[1:]]
            best.append(free[0] if free else ())
        if tuple(best) == taking:
            found.append(taking)
    return sorted(found)


def stands_of(wishes):
    """All stands, also those that no steps lead to."""
    columns = []
    for teller, hearer in wishes.lines():
        columns.append([way[1:] for way in wishes.ways(hearer) if way[1] == teller] + [()])
    return [(takes, told) for takes in takings_of(wishes) for told in itertools.product(*columns)]


def steps_of(wishes):
    return [("tell",) + line for line in wishes.lines()] + [("choose", v) for v in range(1, wishes.size)]


def behind(wishes, stand, step):
    """The stand behind a step, by the words of the document."""
    takes, told = list(stand[0]), dict(zip(wishes.lines(), stand[1]))
    if step[0] == "tell":
        _, teller, hearer = step
        way = takes[teller]
        told[teller, hearer] = way if (hearer,) + way in wishes.ways(hearer) else ()
    else:
        router = step[1]
        free = [way for way in wishes.ways(router) if way[1] == 0 or told[way[1], router] == way[1:]]
        takes[router] = free[0] if free else ()
    return (tuple(takes), tuple(told[line] for line in wishes.lines()))


def begin_of(wishes):
    return (((0,),) + ((),) * (wishes.size - 1), ((),) * len(wishes.lines()))


def reached_from(wishes, firsts):
    """A dict from all stands that steps lead to, to the list of the stands behind the steps."""
    rows = {}
    left = list(firsts)
    while left:
        stand = left.pop()
        if stand not in rows:
            rows[stand] = [behind(wishes, stand, step) for step in steps_of(wishes)]
            left.extend(rows[stand])
    return rows


def can_go_round(wishes, rows):
    """Whether from some stand all steps can be done, with a change, so that they lead back to it."""
    full = (1 << len(steps_of(wishes))) - 1
    for first in rows:
        seen = set()
        left = [(first, 0, False)]
        while left:
            state = left.pop()
            if state in seen:
                continue
            seen.add(state)
            stand, mask, moved = state
            left.extend((later, mask | 1 << at, moved or later != stand) for at, later in enumerate(rows[stand]))
        if (first, full, True) in seen:
            return True
    return False


def rings_of(wishes):
    """All rings that begin with their least router, by trying all rows of items."""
    triples = {}
    for router in range(1, wishes.size):
        ways = wishes.ways(router)
        triples[router] = [(router, own, far) for far, own in itertools.combinations(ways, 2)]
    found = []
    for many in range(2, wishes.size):
        for routers in itertools.permutations(range(1, wishes.size), many):
            if routers[0] == min(routers):
                rows = itertools.product(*[triples[router] for router in routers])
                found += [row for row in rows if all(
                    row[at][2][-len(row[(at + 1) % many][1]):] == row[(at + 1) % many][1] for at in range(many))]
    return sorted(found)


def frozen(test, wishes, *arguments):
    """Check behind a block of calls that wishes and arguments are as they were: call the result."""
    kept = lists_of(wishes)
    copies = copy.deepcopy(arguments)

    def look():
        test.assertEqual(lists_of(wishes), kept)
        test.assertEqual(arguments, copies)
    return look

"""What the document promises over the whole program: all functions together."""

import copy
import os
import pathlib
import subprocess
import sys
import unittest

from tests import helper
from wishreels import areas, chains, costs, fewest, fields, nets, orderpapers, outcomes, outcometrees, parting
from wishreels import patterns, policies, reels, rings, roles, rolewishes, settling, strikings, tables, talks, texts
from wishreels.desk import Desk
from wishreels.floods import Flood
from wishreels.wishes import Wishes

ROOT = pathlib.Path(__file__).resolve().parent.parent
WISHES = [helper.SWAP, helper.PLAIN, helper.BAD, helper.BARE, helper.APART]
PLAIN_LISTS = ((), ((1, 0),), ((2, 1, 0), (2, 0)))
LINKS = [(0, 1), (2, 1)]
DEEDS = [("write", 0, 5), ("pass", 0, 1), ("pass", 1, 2)]
KEEP = policies.Rule(("any",), None, (3, ("seen",), ()))
SHY = policies.Rule(("one", "any", 0), "seen", None)
BOTH = policies.Policy((SHY, KEEP))
NO = policies.Policy((KEEP, SHY))


def made_roles(order=1):
    return roles.Roles(5, [(1, 2), (2, 3), (3, 1), (4, 3)][::order], [(1, 4)])


def made_levels(order=1):
    return roles.Roles(5, [(0, 1), (1, 2), (1, 3), (2, 4)][::order], [(2, 3), (4, 3)][::order])


def made_net(order=1):
    return nets.Net(3, dict([((0, 1), BOTH), ((0, 2), NO), ((1, 2), BOTH), ((2, 1), NO)][::order]))


def made_costs(order=1):
    return costs.Costs(4, dict([((1, 0), 5), ((2, 1), 2), ((2, 0), 7), ((3, 2), 1), ((3, 0), 8), ((0, 3), 1)][::order]))


def made_areas(order=1):
    return areas.Areas(made_costs(order), ((0,), (0,), (0, 1), (0, 2)))


def made_table(order=1):
    return tables.Table([("", 1), ("01", "here"), ("00", 0), ("1", 1), ("000", 0)][::order])


def made_field(order=1):
    return fields.Field((made_table(order), tables.Table([("", 0), ("1", "here"), ("01", 1)][::order])))


def wishes_calls():
    """Pairs of a function and its arguments, for all functions of wishes."""
    for wishes in WISHES:
        for function in (
                outcomes.outcomes, outcometrees.outcome_tree, talks.steps, talks.begin, settling.reached,
                settling.settles, settling.settles_anywhere, orderpapers.endless, orderpapers.ranks, rings.rings,
                rings.ladder, reels.reels, reels.least_reel, strikings.settles_struck, strikings.strike_paper,
                strikings.least_cure, texts.wishes_text, Wishes.lines):
            yield function, (wishes,)
        yield talks.due, (wishes, talks.begin(wishes))
        for taking in outcomes.outcomes(wishes):
            yield settling.comes, (wishes, taking)
    yield talks.done, (helper.SWAP, talks.begin(helper.SWAP), ("choose", 1))
    yield reels.broken, (helper.SWAP, rings.rings(helper.SWAP)[0])
    yield Wishes.struck, (helper.SWAP, [(1, 0)])
    yield Wishes.failed, (helper.SWAP, [(1, 2)])


def other_calls(order=1):
    """Pairs of a function and its arguments, for the functions of the other things, made in this order."""
    for thing in (made_roles(order), made_levels(order)):
        for function in (roles.customer_ring, roles.levels, rolewishes.plain_wishes, rolewishes.ring_wishes):
            yield function, (thing,)
        yield roles.put, (thing, [1, 2])
        yield rolewishes.role_ways, (thing, 4)
    yield patterns.fits, ((2, "any", 0), (2, 5, 0))
    yield parting.parting, (BOTH, NO)
    yield parting.used, (BOTH, 0)
    yield parting.needless, (NO,)
    yield parting.ways_to_stand, (BOTH, NO)
    yield texts.policy_text, (BOTH,)
    yield policies.Policy.answer, (BOTH, (1, 0), ("seen", "x"))
    yield nets.wishes_of, (made_net(order),)
    yield nets.Net.told, (made_net(order), (1, 0))
    yield nets.Net.with_policy, (made_net(order), 0, 1, None)
    yield chains.latest, (3, LINKS, DEEDS, 0, 2)
    yield costs.distances, (made_costs(order), 0)
    yield costs.cheapest_way, (made_costs(order), 3, 0)
    yield costs.cost_wishes, (made_costs(order),)
    yield areas.area_distances, (made_areas(order), 0)
    yield areas.area_way, (made_areas(order), 3, 0)
    yield areas.detours, (made_areas(order),)
    yield tables.parts, (made_table(order),)
    yield tables.joined, (["01", "00", "1111"][::order],)
    yield tables.table_parting, (made_table(order), tables.Table([]))
    yield fewest.fewest, (made_table(order),)
    yield fields.fate, (made_field(order), 0, "0" * 10)
    yield fields.fates, (made_field(order), 0)
    yield fields.all_rounds, (made_field(order),)
    yield fields.holes, (made_field(order), 0, ["0", "1"][::order])
    yield fields.least_address, (made_field(order), 0, "here")


def all_calls():
    return list(wishes_calls()) + list(other_calls())


def judges():
    """Pairs of a function that judges any object, and its arguments ahead of the object."""
    for wishes in WISHES:
        for function in (outcomes.is_outcome, outcometrees.is_outcome_tree, talks.is_stand, orderpapers.is_endless,
                         orderpapers.is_ranks, rings.is_ring, rings.is_ladder, strikings.is_strike_paper,
                         strikings.is_cure):
            yield function, (wishes,)
    yield roles.is_levels, (made_levels(),)
    yield rolewishes.is_by_roles, (made_levels(),)
    yield chains.is_chain, (3, LINKS, DEEDS, 0, 2)
    yield costs.is_distances, (made_costs(), 0)
    yield areas.is_area_way, (made_areas(), 3, 0)
    yield fewest.is_fewest, (made_table(),)


def told(thing):
    """What an answer is, in a form that tells its kinds and the order of its keys."""
    if isinstance(thing, dict):
        return ("dict", [(told(key), told(thing[key])) for key in thing])
    if isinstance(thing, (list, tuple)):
        return (type(thing).__name__, [told(item) for item in thing])
    if isinstance(thing, Wishes):
        return ("wishes", helper.lists_of(thing))
    if isinstance(thing, roles.Roles):
        return ("roles", [[thing.role(a, b) for a in range(thing.size)] for b in range(thing.size)])
    if isinstance(thing, nets.Net):
        pairs = [(w, v) for w in range(thing.size) for v in range(thing.size)]
        return ("net", [told(thing.policy(w, v)) for w, v in pairs])
    if isinstance(thing, policies.Policy):
        return ("policy", texts.policy_text(thing))
    if isinstance(thing, costs.Costs):
        return ("costs", [[thing.cost(a, b) for a in range(thing.size)] for b in range(thing.size)])
    if isinstance(thing, areas.Areas):
        return ("areas", told(thing.costs), [thing.areas(router) for router in range(thing.costs.size)])
    if isinstance(thing, tables.Table):
        return ("table", thing.entries)
    if isinstance(thing, fields.Field):
        return ("field", [told(thing.table(router)) for router in range(thing.size)])
    assert thing is None or isinstance(thing, (bool, int, str)), thing
    return thing


def shuffled(thing):
    """Change a list or a dict that was returned, and those inside it."""
    if isinstance(thing, dict):
        for part in list(thing.values()):
            shuffled(part)
        thing.clear()
    if isinstance(thing, (list, tuple)):
        for part in list(thing):
            shuffled(part)
    if isinstance(thing, list):
        thing.append("more")


def dicts_in(thing):
    if isinstance(thing, dict):
        yield thing
    if isinstance(thing, (list, tuple)):
        for part in thing:
            yield from dicts_in(part)


class AnswersTest(unittest.TestCase):
    def test_arguments_are_not_changed(self):
        for function, arguments in all_calls():
            before = copy.deepcopy([told(thing) for thing in arguments])
            function(*arguments)
            self.assertEqual([told(thing) for thing in arguments], before, function)

    def test_what_is_returned_is_new(self):
        for function, arguments in all_calls():
            first = function(*arguments)
            before = told(first)
            shuffled(first)
            self.assertEqual(told(function(*arguments)), before, function)

    def test_keys_are_ascending(self):
        for function, arguments in all_calls():
            for found in dicts_in(function(*arguments)):
                self.assertEqual(list(found), sorted(found), function)

    def test_equal_arguments_give_equal_answers(self):
        for (function, one), (same, other) in zip(other_calls(), other_calls(-1)):
            self.assertIs(function, same)
            self.assertEqual(told(function(*one)), told(function(*other)), function)
        for wishes in WISHES:
            twin = Wishes(helper.lists_of(wishes))
            for function in (orderpapers.endless, orderpapers.ranks, rings.ladder, strikings.strike_paper,
                             strikings.least_cure, outcometrees.outcome_tree):
                self.assertEqual(told(function(wishes)), told(function(twin)))

    def test_the_same_answers_in_each_run(self):
        told_by_runs = []
        for seed in ("1", "2"):
            environment = dict(os.environ, PYTHONHASHSEED=seed, PYTHONPATH=str(ROOT))
            run = subprocess.run([sys.executable, "-c", (
                "from tests import test_whole as t\n"
                "print([t.told(function(*arguments)) for function, arguments in t.all_calls()])")],
                capture_output=True, text=True, env=environment, cwd=ROOT, check=True)
            told_by_runs.append(run.stdout)
        self.assertEqual(told_by_runs[0], told_by_runs[1])
        self.assertEqual(told_by_runs[0].strip(), str([told(function(*one)) for function, one in all_calls()]))

    def test_what_was_returned_may_be_passed_on(self):
        for wishes in WISHES:
            self.assertTrue(outcometrees.is_outcome_tree(wishes, outcometrees.outcome_tree(wishes)))
            for make, judge in [(orderpapers.endless, orderpapers.is_endless), (orderpapers.ranks, orderpapers.is_ranks),
                                (rings.ladder, rings.is_ladder), (strikings.strike_paper, strikings.is_strike_paper),
                                (strikings.least_cure, strikings.is_cure)]:
                found = make(wishes)
                self.assertIs(judge(wishes, found), found is not None)


class JudgesTest(unittest.TestCase):
    def test_they_return_flags_for_any_object(self):
        things = helper.wrong_things() + [made_roles(), made_net(), made_areas(), made_field(), Flood(3, LINKS), Desk()]
        things += [function(*arguments) for function, arguments in all_calls()]
        for function, arguments in judges():
            before = copy.deepcopy([told(thing) for thing in arguments])
            for thing in things:
                self.assertIs(type(function(*arguments, thing)), bool, function)
            self.assertEqual([told(thing) for thing in arguments], before, function)


class ChangesTest(unittest.TestCase):
    def test_calls_that_raise_errors_change_nothing(self):
        talk, flood, desk = talks.Talk(helper.SWAP), Flood(3, LINKS), Desk()
        talk.do(("choose", 1))
        flood.do(("write", 1, 4))
        desk.tell("wishes a 1:|")

        def look():
            return (talk.stand, talk.many, flood.book(1), flood.content(1), flood.many, desk.tell("names"),
                    desk.undoable())

        before = look()
        for thing in helper.wrong_things():
            for call in (talk.do, talk.back, flood.do, flood.back, desk.tell, desk.would, desk.kept, flood.book):
                with self.assertRaises(ValueError):
                    call(thing)
        for row in ([("choose", 1), None], [("tell", 1, 2), ("choose", 0)], None):
            for call in (talk.run, talk.ahead):
                with self.assertRaises(ValueError):
                    call(row)
        self.assertEqual(look(), before)

    def test_objects_keep_copies(self):
        links, lines, entries = [(0, 1)], {(0, 1): 5}, [("", 0)]
        flood, cost, table = Flood(2, links), costs.Costs(2, lines), tables.Table(entries)
        links.clear()
        lines.clear()
        entries.clear()
        self.assertIs(flood.do(("pass", 0, 1)), False)
        self.assertEqual((cost.cost(0, 1), table.entries), (5, (("", 0),)))


if __name__ == "__main__":
    unittest.main()

"""The interface: its names stand in the files under which it lists them, with their arguments."""

import ast
import importlib
import inspect
import pathlib
import unittest

ROOT = pathlib.Path(__file__).resolve().parent.parent / "wishreels"

FUNCTIONS = {
    "outcomes": ["is_outcome(wishes, thing)", "outcomes(wishes)"],
    "outcometrees": ["outcome_tree(wishes)", "is_outcome_tree(wishes, thing)"],
    "talks": ["steps(wishes)", "due(wishes, stand)", "begin(wishes)", "done(wishes, stand, step)",
              "is_stand(wishes, thing)"],
    "settling": ["reached(wishes)", "settles(wishes)", "settles_anywhere(wishes)", "comes(wishes, taking)"],
    "orderpapers": ["endless(wishes)", "ranks(wishes)", "is_endless(wishes, thing)", "is_ranks(wishes, thing)"],
    "rings": ["rings(wishes)", "is_ring(wishes, thing)", "is_ladder(wishes, thing)", "ladder(wishes)"],
    "reels": ["broken(wishes, ring)", "reels(wishes)", "least_reel(wishes)"],
    "strikings": ["settles_struck(wishes)", "is_strike_paper(wishes, thing)", "is_cure(wishes, thing)",
                  "strike_paper(wishes)", "least_cure(wishes)"],
    "roles": ["customer_ring(roles)", "levels(roles)", "is_levels(roles, thing)", "put(roles, routers)"],
    "rolewishes": ["is_by_roles(roles, thing)", "role_ways(roles, router)", "plain_wishes(roles)",
                   "ring_wishes(roles)"],
    "patterns": ["fits(pattern, routers)"],
    "parting": ["parting(one, other)", "used(policy, index)", "ways_to_stand(one, other)", "needless(policy)"],
    "nets": ["wishes_of(net)"],
    "chains": ["latest(size, links, deeds, r, b)", "is_chain(size, links, deeds, r, b, thing)"],
    "costs": ["distances(costs, goal)", "is_distances(costs, goal, thing)", "cheapest_way(costs, start, goal)",
              "cost_wishes(costs)"],
    "areas": ["area_distances(areas, goal)", "area_way(areas, start, goal)", "is_area_way(areas, start, goal, thing)",
              "detours(areas)"],
    "tables": ["parts(table)", "joined(ranges)", "table_parting(one, other)"],
    "fewest": ["fewest(table)", "is_fewest(table, thing)"],
    "fields": ["fate(field, start, address)", "fates(field, start)", "all_rounds(field)",
               "holes(field, start, ranges)", "least_address(field, start, word)"],
    "texts": ["wishes_text(wishes)", "policy_text(policy)", "read_wishes(text)", "read_policy(text)"],
}
CLASSES = {
    "wishes": {"Wishes(lists)": ["ways(router)", "lines()", "struck(ways)", "failed(links)", "__eq__(other)"]},
    "talks": {"Talk(wishes)": ["do(step)", "run(steps)", "back(many)", "trying()", "ahead(steps)", "to_rest(limit)"]},
    "roles": {"Roles(size, customers, peers)": ["role(a, b)", "__eq__(other)"]},
    "policies": {
        "Rule(pattern, tag, deed)": ["__eq__(other)"],
        "Policy(rules)": ["answer(routers, tags)", "rule(routers, tags)", "__eq__(other)"]},
    "nets": {"Net(size, policies)": ["policy(w, v)", "with_policy(w, v, policy)", "told(way)", "__eq__(other)"]},
    "floods": {"Flood(size, links)": ["do(deed)", "book(router)", "content(router)", "back(many)", "is_calm()",
                                      "rounds()"]},
    "costs": {"Costs(size, lines)": ["cost(a, b)", "__eq__(other)"]},
    "areas": {"Areas(costs, areas)": ["areas(router)"]},
    "tables": {"Table(entries)": ["onward(address)", "__eq__(other)"]},
    "fields": {"Field(tables)": ["table(router)"]},
    "desk": {"Desk()": ["tell(line)", "undoable()", "kept(name)", "trying()", "would(line)"]},
}


def parts(text):
    """The name and the names of the arguments."""
    name, _, rest = text[:-1].partition("(")
    return name, rest.split(", ") if rest else []


class InterfaceTest(unittest.TestCase):
    def look(self, thing, text, ahead=()):
        name, arguments = parts(text)
        self.assertEqual(list(inspect.signature(thing).parameters), list(ahead) + arguments, text)

    def test_functions(self):
        for module, texts in FUNCTIONS.items():
            there = importlib.import_module("wishreels." + module)
            defined = [node.name for node in ast.parse((ROOT / f"{module}.py").read_text()).body
                       if isinstance(node, ast.FunctionDef)]
            for text in texts:
                self.assertIn(parts(text)[0], defined)
                self.look(getattr(there, parts(text)[0]), text)

    def test_classes_and_their_own_methods(self):
        for module, classes in CLASSES.items():
            there = importlib.import_module("wishreels." + module)
            for text, methods in classes.items():
                made = getattr(there, parts(text)[0])
                self.assertEqual(made.__module__, "wishreels." + module)
                self.look(made, text)
                for method in methods:
                    self.assertIn(parts(method)[0], vars(made))
                    self.look(getattr(made, parts(method)[0]), method, ["self"])


if __name__ == "__main__":
    unittest.main()

"""Policies: rules by which a router judges the ways that another one tells."""

from wishreels.errors import BadPolicy, BadRow, BadRule, BadTags
from wishreels.kinds import is_between, is_tuple_of
from wishreels.patterns import Sieve, is_pattern, is_router_tuple

MOST_LETTERS = 8
MOST_NUMBER = 9
MOST_CHANGES = 3
MOST_RULES = 8


class Rule:
    """A pattern and a tag for which there is a deed, None to refuse. Rules never change."""

    def __init__(self, pattern, tag, deed):
        if not is_pattern(pattern):
            raise BadRule("pattern")
        if tag is not None and not is_name(tag):
            raise BadRule("tag")
        if deed is not None and not is_deed(deed):
            raise BadRule("deed")
        self.pattern = pattern
        self.tag = tag
        self.deed = deed

    def __eq__(self, other):
        if not isinstance(other, Rule):
            return False
        return self.pattern == other.pattern and self.tag == other.tag and self.deed == other.deed


class Policy:
    """Rules of which the first that fits decides. Policies never change."""

    def __init__(self, rules):
        refuse_wrong_rules(rules)
        self.rules = rules
        self._sieve = Sieve([rule.pattern for rule in rules])

    def __eq__(self, other):
        return isinstance(other, Policy) and self.rules == other.rules

    def answer(self, routers, tags):
        """The number and the tags that a way with these routers and tags gets, or None."""
        index = self.rule(routers, tags)
        return None if index is None else answer_by(self.rules[index].deed, tags)

    def rule(self, routers, tags):
        """The index of the rule that decides, or None."""
        if not is_router_tuple(routers) or len(routers) == 0:
            raise BadRow()
        if not is_tags(tags):
            raise BadTags()
        return first_for(self.rules, self._sieve.fitting(self._sieve.read_all(routers)), tags)


def refuse_wrong_rules(rules):
    """Raise BadPolicy unless these are the rules of a policy."""
    if not isinstance(rules, tuple) or len(rules) > MOST_RULES:
        raise BadPolicy(-1)
    for index, rule in enumerate(rules):
        if not isinstance(rule, Rule):
            raise BadPolicy(index)


def is_name(thing):
    """Whether a thing is a name."""
    if not isinstance(thing, str) or not 1 <= len(thing) <= MOST_LETTERS:
        return False
    return all(["a" <= letter <= "z" for letter in thing])


def is_tags(thing):
    """Whether a thing is an ascending tuple of unlike names."""
    if not isinstance(thing, tuple) or not all([is_name(item) for item in thing]):
        return False
    return list(thing) == sorted(set(thing))


def is_deed(thing):
    """Whether a thing is a tuple of a number, of the tags to put on and of those to take off."""
    if not is_tuple_of(3, thing) or not is_between(0, MOST_NUMBER, thing[0]):
        return False
    if not all([is_tags(names) and len(names) <= MOST_CHANGES for names in thing[1:]]):
        return False
    return not any([name in thing[2] for name in thing[1]])


def first_for(rules, fitting, tags):
    """The first of the fitting indexes whose rule has one of the tags, or None as its tag; or None."""
    for index in fitting:
        if rules[index].tag is None or rules[index].tag in tags:
            return index
    return None


def answer_by(deed, tags):
    """The number and the tags that a deed makes of tags, or None."""
    if deed is None:
        return None
    number, put_on, taken_off = deed
    kept = [name for name in tags if name not in taken_off]
    return (number, tuple(sorted(set(kept + list(put_on)))))

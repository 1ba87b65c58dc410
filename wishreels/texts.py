"""Texts: wishes and policies as rows of signs, each closed by a line feed."""

from wishreels.errors import BadRule, BadText
from wishreels.kinds import MOST_ROUTERS
from wishreels.policies import MOST_RULES, Policy, Rule
from wishreels.wishes import Wishes, is_way_list

DIGITS = "0123456789"


def wishes_text(wishes):
    """The text of wishes: for each router but the goal a row with its ways."""
    return "".join([ways_row(router, wishes.ways(router)) + "\n" for router in range(1, wishes.size)])


def ways_row(router, ways):
    """The row of a router and its ways, without the line feed."""
    return " ".join([f"{router}:"] + [way_text(way) for way in ways])


def way_text(way):
    """The routers of a way, with a sign between two."""
    return "-".join([str(router) for router in way])


def read_wishes(text):
    """The wishes whose text it is."""
    rows = split_rows(text)
    lists = [()]
    for row in rows[:-1]:
        ways = read_ways(row)
        if len(lists) == MOST_ROUTERS or not is_way_list(MOST_ROUTERS, len(lists), ways):
            raise BadText(len(lists))
        if ways_row(len(lists), ways) != row:
            raise BadText(len(lists))
        lists.append(ways)
    if len(rows) == 1 or rows[-1] != "":
        raise BadText(len(rows))
    return Wishes(tuple(lists))


def split_rows(text):
    """The list of the rows of a text, and of what stands behind the last line feed."""
    if not isinstance(text, str):
        raise BadText(0)
    return text.split("\n")


def read_ways(row):
    """The tuple of what may be the ways in a row, behind its first word."""
    return tuple([read_routers(word) for word in row.split(" ")[1:]])


def read_routers(word):
    """The tuple of the routers between which a sign stands, -1 for what is no single digit."""
    return tuple([read_digit(piece) for piece in word.split("-")])


def read_digit(piece):
    """The number that is written as a single digit, or -1."""
    return DIGITS.find(piece) if len(piece) == 1 else -1


def policy_text(policy):
    """The text of a policy: for each rule a row."""
    return "".join([rule_row(rule) + "\n" for rule in policy.rules])


def rule_row(rule):
    """The row of a rule, without the line feed."""
    items = "-".join([str(item) for item in rule.pattern])
    return " ".join([items if rule.pattern else ".", "*" if rule.tag is None else rule.tag] + deed_words(rule.deed))


def deed_words(deed):
    """The list of the words of a deed."""
    if deed is None:
        return ["refuse"]
    number, put_on, taken_off = deed
    return [str(number)] + ["+" + name for name in put_on] + ["/" + name for name in taken_off]


def read_policy(text):
    """The policy whose text it is."""
    rows = split_rows(text)
    rules = []
    for row in rows[:-1]:
        rule = read_rule(row)
        if len(rules) == MOST_RULES or rule is None:
            raise BadText(len(rules) + 1)
        rules.append(rule)
    if rows[-1] != "":
        raise BadText(len(rows))
    return Policy(tuple(rules))


def read_rule(row):
    """The rule whose row it is, or None.

    What the row may tell is read first; then it is the row of a rule just if that rule's own
    row is the same.
    """
    words = row.split(" ")
    if len(words) < 3:
        return None
    try:
        rule = Rule(read_pattern(words[0]), None if words[1] == "*" else words[1], read_deed(words[2:]))
    except BadRule:
        return None
    return rule if rule_row(rule) == row else None


def read_pattern(word):
    """The tuple of what may be the items of a pattern."""
    if word == ".":
        return ()
    return tuple([piece if read_digit(piece) == -1 else read_digit(piece) for piece in word.split("-")])


def read_deed(words):
    """What may be a deed, None for the word to refuse."""
    if words == ["refuse"]:
        return None
    put_on = [word[1:] for word in words if word.startswith("+")]
    taken_off = [word[1:] for word in words if word.startswith("/")]
    return (read_digit(words[0]), tuple(put_on), tuple(taken_off))

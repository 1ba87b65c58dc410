"""Fewest: tables with as few entries as can be that do what another one does."""

from wishreels.kinds import MOST_ROUTERS
from wishreels.tables import DROP, HERE, Table, parts, table_parting


def fewest(table):
    """A table with as few entries as can be that has the same next one for all addresses."""
    nexts = {part: onto for part, onto in parts(table)}
    # What has no entry is dropped, as if an entry above all others were there for nothing.
    return Table(fewest_entries(nexts, "")[DROP])


def fewest_entries(nexts, part):
    """The fewest entries for a range, as a dict from what its addresses have without them.

    nexts: a dict from the widest ranges that have one next one, to it; the range is one of
    these, or a beginning of some.
    """
    choices = [HERE, DROP] + list(range(MOST_ROUTERS))
    if part in nexts:
        return {onto: () if onto == nexts[part] else ((part, nexts[part]),) for onto in choices}
    low = fewest_entries(nexts, part + "0")
    high = fewest_entries(nexts, part + "1")
    both = {onto: low[onto] + high[onto] for onto in choices}
    best = min(choices, key=lambda onto: len(both[onto]))
    anew = ((part, best),) + both[best]
    return {onto: anew if len(anew) < len(both[onto]) else both[onto] for onto in choices}


def is_fewest(table, thing):
    """Whether a thing is a table with as few entries as can be that does what the table does."""
    if not isinstance(thing, Table) or table_parting(table, thing) is not None:
        return False
    return len(thing.entries) == len(fewest(table).entries)

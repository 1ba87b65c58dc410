"""Fields: routers with tables, and how packets fare that go from one to the next."""

from wishreels.errors import BadField, BadWord
from wishreels.kinds import MOST_ROUTERS, is_router, refuse_no_router
from wishreels.ranges import addresses, covered, fewest_ranges, merged
from wishreels.tables import DROP, HERE, Table, is_end, refuse_no_ranges

ROUND = "round"


class Field:
    """A table for each router. Fields never change."""

    def __init__(self, tables):
        refuse_wrong_tables(tables)
        self.size = len(tables)
        self._tables = tables

    def table(self, router):
        """The table of a router."""
        refuse_no_router(self.size, router)
        return self._tables[router]


def refuse_wrong_tables(tables):
    """Raise BadField unless these are the tables of a field."""
    if not isinstance(tables, tuple) or not 1 <= len(tables) <= MOST_ROUTERS:
        raise BadField(-1)
    for router, item in enumerate(tables):
        if not isinstance(item, Table) or not all([is_onto(len(tables), onto) for _, onto in item.entries]):
            raise BadField(router)


def is_onto(size, onto):
    """Whether the next one in a table is a router below the size, or none at all."""
    return is_end(onto) or is_router(size, onto)


def fate(field, start, address):
    """How a packet for an address ends that begins at a router, or where it goes round."""
    # The field refuses what is no router, and then its table what is no address.
    onto = field.table(start).onward(address)
    row = [start]
    while not is_end(onto):
        if onto in row:
            return (ROUND, least_first(row[row.index(onto):]))
        row.append(onto)
        onto = field.table(onto).onward(address)
    return (onto, row[-1], len(row) - 1)


def least_first(row):
    """The tuple of routers in a round that begins with the least one."""
    place = row.index(min(row))
    return tuple(row[place:] + row[:place])


def all_fates(field, start):
    """The list of the fates of all addresses, in order."""
    return [fate(field, start, address) for address in addresses()]


def fates(field, start):
    """The ascending list of the pairs (range, fate) of the widest ranges that have one fate."""
    return merged(all_fates(field, start))


def least_address(field, start, word):
    """The least address whose fate has a word, or None."""
    refuse_no_router(field.size, start)
    if not isinstance(word, str) or word not in (HERE, DROP, ROUND):
        raise BadWord()
    for address, end in zip(addresses(), all_fates(field, start)):
        if end[0] == word:
            return address
    return None


def all_rounds(field):
    """The ascending list of the pairs of a round and the least address that goes it."""
    least = {}
    for address in addresses():
        for start in range(field.size):
            end = fate(field, start, address)
            if end[0] == ROUND and end[1] not in least:
                least[end[1]] = address
    return sorted(least.items())


def holes(field, start, ranges):
    """The ascending list of the fewest ranges with the addresses of these whose fate is not to be here."""
    refuse_no_router(field.size, start)
    refuse_no_ranges(ranges)
    return fewest_ranges([flag and end[0] != HERE for flag, end in zip(covered(ranges), all_fates(field, start))])

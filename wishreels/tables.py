"""Tables: where packets go on to, by the longest range that has their address."""

from wishreels.errors import BadAddress, BadRanges, BadTable
from wishreels.kinds import MOST_ROUTERS, is_router, is_row, is_tuple_of
from wishreels.ranges import addresses, beginnings, covered, fewest_ranges, is_address, is_range, merged

MOST_ENTRIES = 24
HERE = "here"
DROP = "drop"


class Table:
    """Ranges and the next ones to which packets with their addresses go. Tables never change."""

    def __init__(self, entries):
        refuse_wrong_entries(entries)
        self.entries = tuple(sorted(entries))
        self._nexts = {part: onto for part, onto in entries}

    def __eq__(self, other):
        return isinstance(other, Table) and self.entries == other.entries

    def onward(self, address):
        """The next one for an address."""
        if not is_address(address):
            raise BadAddress()
        for part in beginnings(address):
            if part in self._nexts:
                return self._nexts[part]
        return DROP


def refuse_wrong_entries(entries):
    """Raise BadTable unless these are the entries of a table."""
    if not is_row(entries) or len(entries) > MOST_ENTRIES:
        raise BadTable(-1)
    ahead = {}
    for index, item in enumerate(entries):
        if not is_entry(item) or item[0] in ahead:
            raise BadTable(index)
        ahead[item[0]] = True


def is_entry(thing):
    """Whether a thing is a pair of a range and a next one."""
    if not is_tuple_of(2, thing) or not is_range(thing[0]):
        return False
    return is_router(MOST_ROUTERS, thing[1]) or is_end(thing[1])


def is_end(thing):
    """Whether a thing is a next one that is no router."""
    return isinstance(thing, str) and thing in (HERE, DROP)


def parts(table):
    """The ascending list of the pairs (range, next) of the widest ranges that have one next."""
    return merged([table.onward(address) for address in addresses()])


def table_parting(one, other):
    """The least address with unlike next ones, or None."""
    for address in addresses():
        if one.onward(address) != other.onward(address):
            return address
    return None


def joined(ranges):
    """The ascending list of the fewest ranges that have just the addresses of these."""
    refuse_no_ranges(ranges)
    return fewest_ranges(covered(ranges))


def refuse_no_ranges(thing):
    """Raise BadRanges unless a thing is a row of ranges."""
    if not is_row(thing) or not all([is_range(part) for part in thing]):
        raise BadRanges()

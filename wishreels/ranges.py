"""Ranges of addresses: which there are, and the fewest of them that have something in common."""

ADDRESS_LENGTH = 10


def is_range(thing):
    """Whether a thing is a range."""
    if not isinstance(thing, str) or len(thing) > ADDRESS_LENGTH:
        return False
    return all([sign in ("0", "1") for sign in thing])


def is_address(thing):
    """Whether a thing is an address."""
    return is_range(thing) and len(thing) == ADDRESS_LENGTH


def addresses():
    """The ascending list of all addresses."""
    rows = [""]
    for _ in range(ADDRESS_LENGTH):
        rows = [row + sign for row in rows for sign in ("0", "1")]
    return rows


def beginnings(address):
    """The list of the ranges that have an address, the longest one first."""
    return [address[:length] for length in range(ADDRESS_LENGTH, -1, -1)]


def covered(ranges):
    """The list of flags, for all addresses in order, whether some of the ranges has it."""
    there = {part: True for part in ranges}
    return [any([part in there for part in beginnings(address)]) for address in addresses()]


def merged(worths, ahead=""):
    """The ascending list of the pairs (range, worth) of the widest ranges in which all have one worth.

    The worths are those of all addresses that begin with what stands ahead, in order.
    """
    if worths.count(worths[0]) == len(worths):
        return [(ahead, worths[0])]
    half = len(worths) // 2
    return merged(worths[:half], ahead + "0") + merged(worths[half:], ahead + "1")


def fewest_ranges(flags):
    """The ascending list of the fewest ranges that have just the addresses whose flags are True."""
    return [part for part, flag in merged(flags) if flag]

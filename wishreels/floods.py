"""Floods: routers pass their books over links, till all that are joined have equal ones."""

from wishreels.errors import BadDeed, BadFlood, BadNumber
from wishreels.kinds import is_between, is_integer, is_router, is_row_of_unlike_pairs, is_size
from wishreels.kinds import refuse_no_router, replaced

LEAST_SIZE = 1
MOST_CONTENT = 99


class Flood:
    """Routers with links, their books and their contents, which deeds change."""

    def __init__(self, size, links):
        refuse_wrong_flood(size, links)
        self._size = size
        self._arrows = both_ways(links)
        self._state = (({},) * size, (None,) * size)
        self.many = 0
        # The states ahead of each deed that was done and is not taken back.
        self._past = []

    def do(self, deed):
        """Do a deed; whether it changed a book or a content."""
        if not is_flood_deed(self._size, self._arrows, deed):
            raise BadDeed()
        return self._go(deed)

    def book(self, router):
        """The book of a router."""
        refuse_no_router(self._size, router)
        book = self._state[0][router]
        return {key: book[key] for key in sorted(book)}

    def content(self, router):
        """The content of a router, None if it has none."""
        refuse_no_router(self._size, router)
        return self._state[1][router]

    def back(self, many):
        """Take back the last deeds."""
        if not is_between(1, self.many, many):
            raise BadNumber()
        self.many -= many
        self._state = self._past[self.many]
        del self._past[self.many:]

    def is_calm(self):
        """Whether no pass would change anything."""
        return all([behind(self._state, ("pass", a, b)) == self._state for a, b in self._arrows])

    def rounds(self):
        """Pass over all links, both ways, again and again till all is calm; how often it was."""
        rounds = 0
        while not self.is_calm():
            for a, b in self._arrows:
                self._go(("pass", a, b))
            rounds += 1
        return rounds

    def _go(self, deed):
        """Do what is a deed; whether it changed a book or a content."""
        earlier = self._state
        self._past.append(earlier)
        self.many += 1
        self._state = behind(earlier, deed)
        return self._state != earlier


def refuse_wrong_flood(size, links):
    """Raise BadFlood unless these are the size and the links of a flood."""
    if not is_size(LEAST_SIZE, size):
        raise BadFlood("size")
    if not is_row_of_unlike_pairs(size, links):
        raise BadFlood("links")


def both_ways(links):
    """The ascending list of the pairs of routers with a link, each the one way and the other."""
    return sorted(set(list(links) + [(b, a) for a, b in links]))


def is_flood_deed(size, arrows, thing):
    """Whether a thing is a deed of routers with links between these pairs."""
    if not isinstance(thing, tuple) or len(thing) == 0 or not isinstance(thing[0], str):
        return False
    if not all([is_integer(item) for item in thing[1:]]):
        return False
    if thing[0] == "write":
        return len(thing) == 3 and is_router(size, thing[1]) and is_between(0, MOST_CONTENT, thing[2])
    if thing[0] == "restart":
        return len(thing) == 2 and is_router(size, thing[1])
    return thing[0] in ("pass", "lose") and thing[1:] in arrows


def behind(state, deed):
    """The pair (books, contents) behind a deed; the books themselves stay as they are."""
    books, contents = state
    word, router = deed[:2]
    if word == "write":
        book = with_entry(books[router], router, (number_after(books[router].get(router)), deed[2]))
        return (replaced(books, router, book), replaced(contents, router, deed[2]))
    if word == "pass":
        to = deed[2]
        return (replaced(books, to, with_greater(books[to], books[router], to, contents[to])), contents)
    if word == "restart":
        return (replaced(books, router, first_book(router, contents[router])), contents)
    return state


def number_after(entry):
    """The number that comes behind that of an entry, or of none."""
    return 1 if entry is None else entry[0] + 1


def with_entry(book, router, entry):
    """The book with another entry for a router."""
    changed = {key: book[key] for key in book}
    changed[router] = entry
    return changed


def with_greater(own, given, router, content):
    """The own book of a router with this content, with all greater entries of the given one."""
    greater = {key: given[key] for key in given if key not in own or given[key] > own[key]}
    # Who has an entry anywhere did write, so that there is a content.
    if router in greater:
        greater[router] = (number_after(greater[router]), content)
    return {key: greater.get(key, own.get(key)) for key in list(own) + list(greater)}


def first_book(router, content):
    """The book of a router that begins anew with this content, None for none."""
    return {} if content is None else {router: (number_after(None), content)}

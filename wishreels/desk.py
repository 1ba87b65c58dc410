"""The desk: wishes under names, and answers about them, line by line."""

from wishreels.errors import NoLine, NoName, NothingDone
from wishreels.kinds import MOST_ROUTERS, is_router, is_way
from wishreels.outcomes import outcomes
from wishreels.policies import is_name
from wishreels.reels import least_reel
from wishreels.rings import ladder
from wishreels.settling import settles
from wishreels.talks import Talk
from wishreels.texts import read_digit, read_routers, read_wishes, way_text
from wishreels.trials import Trial

# How many names stand behind each first word.
NAMES = {
    "wishes": 1, "strike": 2, "fail": 2, "drop": 1, "settles": 1, "outcomes": 1, "reel": 1, "ladder": 1, "run": 1,
    "names": 0, "undo": 0,
}
# The first words behind whose names further words stand.
WITH_ITEMS = ("wishes", "strike", "fail", "run")
# The first words of the lines that can be taken back.
CHANGES = ("wishes", "strike", "fail", "drop")


class Desk:
    """Wishes under names, which lines change and ask about.

    stand: a dict from the names to their wishes. Each line that changes it makes a new one;
    those that were there ahead of it, and can come back, are the past, so many.
    """

    def __init__(self):
        self.stand = {}
        self.many = 0
        self.past = []

    def tell(self, line):
        """Do a line; its answer."""
        word, names, items = read_line(line)
        if word == "undo":
            return self._undone()
        if word == "names":
            return " ".join(sorted(self.stand)) if self.stand else "none"
        if word in CHANGES:
            return self._changed(self._named_anew(word, names, items))
        return answer_about(self.kept(names[0]), word, items)

    def undoable(self):
        """How many lines can be taken back."""
        return self.many

    def kept(self, name):
        """The wishes under a name."""
        if not is_name(name) or name not in self.stand:
            raise NoName(name)
        return self.stand[name]

    def trying(self):
        """A context manager: behind its block all is as it was ahead of it."""
        return Trial(self)

    def would(self, line):
        """The answer that a line would have."""
        with self.trying():
            return self.tell(line)

    def _named_anew(self, word, names, items):
        """The dict from names to wishes behind a line."""
        later = {name: self.stand[name] for name in self.stand}
        if word == "wishes":
            later[names[0]] = read_wishes(items[0])
        elif word == "strike":
            later[names[1]] = self.kept(names[0]).struck(items)
        elif word == "fail":
            later[names[1]] = self.kept(names[0]).failed(items)
        else:
            self.kept(names[0])
            del later[names[0]]
        return later

    def _changed(self, later):
        """Put another dict in the place of that of now."""
        self.past.append(self.stand)
        self.many += 1
        self.stand = later
        return "ok"

    def _undone(self):
        """Take back the last line that changed the dict."""
        if self.many == 0:
            raise NothingDone()
        self.stand = self.past.pop()
        self.many -= 1
        return "ok"


def read_line(line):
    """The triple (first word, list of names, list of what the further words tell) of a line."""
    if not isinstance(line, str) or "\n" in line:
        raise NoLine()
    words = line.split(" ")
    if words[0] not in NAMES:
        raise NoLine()
    behind = NAMES[words[0]] + 1
    names = words[1:behind]
    items = words[behind:]
    if len(words) < behind or not all([is_name(name) for name in names]):
        raise NoLine()
    if (len(items) > 0) != (words[0] in WITH_ITEMS):
        raise NoLine()
    return (words[0], names, read_items(words[0], items))


def read_items(word, items):
    """The list of what the words behind the names of a line tell."""
    if word == "wishes":
        return [" ".join(items).replace("|", "\n")]
    if word == "run":
        return [read_step(item) for item in items]
    if word == "strike":
        return [read_way(item) for item in items]
    return [read_link(item) for item in items]


def read_way(item):
    """The way that a word tells."""
    way = read_routers(item)
    if not is_way(MOST_ROUTERS, way[0], way):
        raise NoLine()
    return way


def read_link(item):
    """The pair of unlike routers that a word tells."""
    link = read_routers(item)
    if len(link) != 2 or link[0] == link[1] or not all([is_router(MOST_ROUTERS, router) for router in link]):
        raise NoLine()
    return link


def read_step(item):
    """The tuple that may be a step which a word tells."""
    routers = tuple([read_digit(piece) for piece in item.split(">")])
    if len(routers) > 2 or not all([is_router(MOST_ROUTERS, router) for router in routers]):
        raise NoLine()
    return ("choose",) + routers if len(routers) == 1 else ("tell",) + routers


def answer_about(wishes, word, items):
    """The answer to a line about wishes that changes nothing."""
    if word == "settles":
        return "yes" if settles(wishes) else "no"
    if word == "ladder":
        return "no" if ladder(wishes) is None else "yes"
    if word == "run":
        return taking_text(Talk(wishes).ahead(items)[0])
    if word == "reel":
        return reel_text(least_reel(wishes))
    rows = [taking_text(taking) for taking in outcomes(wishes)]
    return "; ".join(rows) if rows else "none"


def taking_text(taking):
    """The ways of the routers but the goal in a taking."""
    return " ".join([way_text(way) if way else "." for way in taking[1:]])


def reel_text(reel):
    """The own and the far ways of a reel, or of None."""
    if reel is None:
        return "none"
    return " ".join([f"{way_text(own)}<{way_text(far)}" for _, own, far in reel])

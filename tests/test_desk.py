import unittest

from tests import helper
from tests.test_rings import ONE_MORE
from wishreels.desk import Desk
from wishreels.errors import BadLinks, BadStep, BadText, BadWays, BadWishes, NoLine, NoName, NothingDone, TooMany
from wishreels.outcomes import outcomes
from wishreels.reels import least_reel
from wishreels.rings import ladder
from wishreels.settling import settles
from wishreels.talks import Talk
from wishreels.texts import wishes_text
from wishreels.wishes import Wishes

SWAP_LINE = "wishes a 1: 1-2-0 1-0|2: 2-1-0 2-0|"
PLAIN_LINE = "wishes p 1: 1-0|2: 2-1-0 2-0|"
BAD_LINE = "wishes bad 1: 1-2-0 1-0|2: 2-3-0 2-0|3: 3-1-0 3-0|"


def desk_with(*lines):
    desk = Desk()
    for line in lines:
        assert desk.tell(line) == "ok"
    return desk


def line_of(name, wishes):
    return f"wishes {name} " + wishes_text(wishes).replace("\n", "|")


def look_of(desk):
    names = desk.tell("names")
    held = [] if names == "none" else [(name, helper.lists_of(desk.kept(name))) for name in names.split(" ")]
    return (held, desk.undoable())


def way_word(way):
    return "-".join(map(str, way)) if way else "."


def taking_word(taking):
    return " ".join(way_word(way) for way in taking[1:])


class ChangesTest(unittest.TestCase):
    def test_wishes(self):
        desk = Desk()
        self.assertEqual(look_of(desk), ([], 0))
        self.assertEqual(desk.tell(SWAP_LINE), "ok")
        self.assertEqual(desk.kept("a"), helper.SWAP)
        self.assertEqual(desk.tell("wishes a 1:|"), "ok")
        self.assertEqual(desk.kept("a"), helper.BARE)
        self.assertEqual(desk.tell("wishes abcdefgh 1: 1-0|"), "ok")
        self.assertEqual(look_of(desk), ([("a", ((), ())), ("abcdefgh", ((), ((1, 0),)))], 3))

    def test_any_wishes(self):
        for wishes in helper.some_wishes(801, 60, 2, 8, 6):
            self.assertEqual(desk_with(line_of("x", wishes)).kept("x"), wishes)

    def test_strike(self):
        desk = desk_with(SWAP_LINE)
        self.assertEqual(desk.tell("strike a b 1-0"), "ok")
        self.assertEqual(desk.kept("b"), helper.SWAP.struck([(1, 0)]))
        self.assertEqual(desk.kept("a"), helper.SWAP)
        self.assertEqual(desk.tell("strike a a 1-0 2-0"), "ok")
        self.assertEqual(desk.kept("a"), Wishes(((), (), ())))
        self.assertEqual(desk.tell("strike b a 1-2-0"), "ok")
        self.assertEqual(desk.kept("a"), Wishes(((), (), ((2, 0),))))
        self.assertEqual(desk.undoable(), 4)

    def test_fail(self):
        desk = desk_with(SWAP_LINE)
        self.assertEqual(desk.tell("fail a b 1-0"), "ok")
        self.assertEqual(desk.kept("b"), helper.SWAP.failed([(1, 0)]))
        self.assertEqual(desk.tell("fail a c 2-1 1-2 2-1"), "ok")
        self.assertEqual(desk.kept("c"), Wishes(((), ((1, 0),), ((2, 0),))))
        self.assertEqual(desk.tell("fail a a 0-1 0-2"), "ok")
        self.assertEqual(desk.kept("a"), Wishes(((), (), ())))

    def test_drop(self):
        desk = desk_with(SWAP_LINE, PLAIN_LINE)
        self.assertEqual(desk.tell("drop a"), "ok")
        self.assertEqual(desk.tell("names"), "p")
        with self.assertRaises(NoName):
            desk.tell("drop a")
        self.assertEqual(desk.tell("drop p"), "ok")
        self.assertEqual(look_of(desk), ([], 4))


class AnswersTest(unittest.TestCase):
    def test_swap_plain_and_bad(self):
        desk = desk_with(SWAP_LINE, PLAIN_LINE, BAD_LINE)
        for line, answer in [
                ("settles a", "no"), ("settles p", "yes"), ("settles bad", "no"),
                ("outcomes a", "1-0 2-1-0; 1-2-0 2-0"), ("outcomes p", "1-0 2-1-0"), ("outcomes bad", "none"),
                ("reel a", "1-0<1-2-0 2-0<2-1-0"), ("reel p", "none"),
                ("reel bad", "1-0<1-2-0 2-0<2-3-0 3-0<3-1-0"),
                ("ladder a", "no"), ("ladder p", "yes"), ("ladder bad", "no"),
                ("run a 1", "1-0 ."), ("run a 1>2", ". ."), ("run a 1 1>2 2", "1-0 2-1-0"),
                ("run a 2 2>1 1 1>2 2", "1-2-0 2-0"), ("run bad 3 2", ". 2-0 3-0"), ("names", "a bad p")]:
            self.assertEqual(desk.tell(line), answer)
        self.assertEqual(desk.undoable(), 3)

    def test_any_wishes(self):
        for wishes in helper.some_wishes(802, 60, 2, 4, 3):
            desk = desk_with(line_of("x", wishes))
            rows = [taking_word(taking) for taking in outcomes(wishes)]
            self.assertEqual(desk.tell("outcomes x"), "; ".join(rows) or "none")
            self.assertEqual(desk.tell("settles x"), "yes" if settles(wishes) else "no")
            self.assertEqual(desk.tell("ladder x"), "no" if ladder(wishes) is None else "yes")
            reel = least_reel(wishes)
            told = "none" if reel is None else " ".join(f"{way_word(own)}<{way_word(far)}" for _, own, far in reel)
            self.assertEqual(desk.tell("reel x"), told)
            talk, words = Talk(wishes), []
            for step in helper.steps_of(wishes) * 2:
                talk.do(step)
                words.append(f"{step[1]}>{step[2]}" if len(step) == 3 else str(step[1]))
                self.assertEqual(desk.tell("run x " + " ".join(words)), taking_word(talk.stand[0]))

    def test_names(self):
        desk = Desk()
        self.assertEqual(desk.tell("names"), "none")
        for name in ("b", "ab", "z", "aa"):
            desk.tell(f"wishes {name} 1:|")
        self.assertEqual(desk.tell("names"), "aa ab b z")

    def test_outcomes_without_ways(self):
        self.assertEqual(desk_with("wishes a 1:|2:|").tell("outcomes a"), ". .")


class UndoTest(unittest.TestCase):
    def test_each_line_that_changes_something(self):
        lines = [SWAP_LINE, PLAIN_LINE, "strike a b 1-0", "fail a a 1-2", "wishes b 1: 1-0|", "drop a", "drop b",
                 "strike p p 2-0"]
        desk = Desk()
        looks = []
        for line in lines:
            looks.append(look_of(desk))
            self.assertEqual(desk.tell(line), "ok")
        for look in reversed(looks):
            self.assertEqual(desk.tell("undo"), "ok")
            self.assertEqual(look_of(desk), look)
        with self.assertRaises(NothingDone):
            desk.tell("undo")
        self.assertEqual(look_of(desk), ([], 0))

    def test_other_lines_are_not_taken_back(self):
        desk = desk_with(SWAP_LINE)
        for line in ("settles a", "outcomes a", "reel a", "ladder a", "run a 1", "names"):
            desk.tell(line)
            self.assertEqual(desk.undoable(), 1)
        desk.tell("undo")
        self.assertEqual(look_of(desk), ([], 0))

    def test_an_undo_is_not_taken_back(self):
        desk = desk_with(SWAP_LINE, PLAIN_LINE)
        desk.tell("undo")
        desk.tell("undo")
        self.assertEqual(look_of(desk), ([], 0))
        self.assertEqual(desk.tell("wishes b 1:|"), "ok")
        self.assertEqual(look_of(desk), ([("b", ((), ()))], 1))
        desk.tell("undo")
        with self.assertRaises(NothingDone):
            desk.tell("undo")

    def test_lines_that_change_nothing_count_if_they_were_done(self):
        desk = desk_with(SWAP_LINE, SWAP_LINE, "fail a a 2-1", "fail a a 2-1", "strike a b 2-0", "fail b b 1-2")
        self.assertEqual(desk.undoable(), 6)


class WrongLinesTest(unittest.TestCase):
    def setUp(self):
        self.desk = desk_with(SWAP_LINE, PLAIN_LINE)
        self.look = look_of(self.desk)

    def refused(self, line, error):
        with self.assertRaises(error) as caught:
            self.desk.tell(line)
        self.assertIs(type(caught.exception), error, line)
        with self.assertRaises(error):
            self.desk.would(line)
        self.assertEqual(look_of(self.desk), self.look)
        return caught.exception

    def test_no_strings(self):
        for thing in helper.wrong_things() + [b"names", ["names"], ("names",), {"names": 1}]:
            self.refused(thing, NoLine)

    def test_none_of_these_forms(self):
        for line in [
                "", " ", "names ", " names", "names a", "Names", "name", "nothing", "undo 1", "undo ", "undone", "drop",
                "drop ", "drop a p", "drop A", "drop a ", " drop a", "drop  a", "drop a1", "drop abcdefghi", "drop a\n",
                "names\n", "\nnames", "settles", "settles a p", "settles 1", "outcomes", "outcomes a a", "reel", "reel a 1",
                "ladder", "ladder a a", "run a", "run a ", "run", "run a 1 ", "run a  1", "run a x", "run a 8", "run a 1>8",
                "run a 1>", "run a >1", "run a 1>2>1", "run a 1-2", "run a 12", "run a -1", "run a 1 9", "run 1 1",
                "run a 1,2", "run a 1> 2", "run a \u0661", "run a tell", "strike a", "strike a b", "strike a b ", "strike",
                "strike a 1-0", "strike a B 1-0", "strike a b 1", "strike a b 0", "strike a b 1-1-0", "strike a b 1-2",
                "strike a b 0-1", "strike a b 0-1-0", "strike a b 1-8-0", "strike a b 1-0 ", "strike a b  1-0",
                "strike a b 1-0 x", "strike a b x 1-0", "strike a b 1>0", "strike a b 1-0-2-0", "strike a b c 1-0",
                "strike a b 1-0|", "fail a b", "fail a b ", "fail a", "fail a b 1", "fail a b 1-1", "fail a b 1-2-0",
                "fail a b 1-8", "fail a b -1", "fail a b 1-", "fail a b 1-2 x", "fail a b 1>2", "fail a 1-2", "fail A b 1-2",
                "wishes", "wishes a", "wishes ", "wishes A 1:|", "wishes  1:|", "wishes abcdefghi 1:|", "wishes 1:|",
                "wishes a 1:|\n", "wishes a 1:\n", "Wishes a 1:|", "wishes\ta 1:|", "kept a", "trying", "would drop a"]:
            self.refused(line, NoLine)
            if " a" in line:
                self.refused(line.replace(" a", " none"), NoLine)

    def test_texts(self):
        for text, line in [("", 1), (" 1:|", 1), ("1:", 1), ("1: |", 1), ("1:|2:", 2), ("1:|3:|", 2), ("1:|\\n", 2),
                           ("|", 1), ("1: 1-0 1-0|", 1), ("1:|2:|3:|4:|5:|6:|7:|8:|", 8), ("1:|| ", 2)]:
            self.assertEqual(self.refused("wishes a " + text, BadText).line, line)
            self.assertEqual(self.refused("wishes new " + text, BadText).line, line)
        self.assertEqual(self.refused("wishes a 1:|2: 2-1-0|", BadWishes).router, 2)
        self.assertEqual(self.refused("wishes a 1: 1-5-0|", BadWishes).router, 1)

    def test_no_names(self):
        for line in ["drop x", "settles x", "outcomes x", "reel x", "ladder x", "run x 1", "run x 0", "strike x a 1-0",
                     "strike x x 1-0 1-0", "fail x a 7-6", "fail x b 1-2", "strike x a 5-0", "run x 7>7"]:
            self.assertEqual(self.refused(line, NoName).name, "x")
        self.assertEqual(self.refused("settles none", NoName).name, "none")

    def test_ways(self):
        for line in ["strike a b 1-0 1-0", "strike a b 2-0 1-0 2-0", "strike p b 1-2-0", "strike a b 3-0",
                     "strike a a 1-0 7-6-5-4-3-2-1-0"]:
            self.refused(line, BadWays)

    def test_links(self):
        for line in ["fail a b 1-3", "fail a b 3-1", "fail a b 1-2 6-7", "fail a a 0-3"]:
            self.refused(line, BadLinks)

    def test_steps(self):
        for line, step in [
                ("run a 0", ("choose", 0)), ("run a 3", ("choose", 3)), ("run a 1>1", ("tell", 1, 1)),
                ("run a 0>1", ("tell", 0, 1)), ("run a 1 1>2 1>0", ("tell", 1, 0)), ("run p 2>1", ("tell", 2, 1)),
                ("run a 1 3>1 0", ("tell", 3, 1)), ("run a 7>7", ("tell", 7, 7))]:
            self.assertEqual(self.refused(line, BadStep).step, step)

    def test_what_the_functions_raise(self):
        self.desk.tell(line_of("many", helper.wishes_with(6, 6, 6, 6, 6, 6)))
        self.desk.tell(line_of("ringed", ONE_MORE))
        self.look = look_of(self.desk)
        self.assertEqual(self.refused("outcomes many", TooMany).most, 20000)
        self.assertEqual(self.refused("settles many", TooMany).most, 4000)
        self.assertEqual(self.refused("reel ringed", TooMany).most, 2000)

    def test_nothing_done(self):
        self.desk = Desk()
        self.look = look_of(self.desk)
        self.refused("undo", NothingDone)


class KeptTest(unittest.TestCase):
    def test_no_name(self):
        desk = desk_with(SWAP_LINE)
        for thing in helper.wrong_things() + ["b", "A", "a ", "aa", ["a"], ("a",), {"a": 1}, b"a"]:
            with self.assertRaises(NoName) as caught:
                desk.kept(thing)
            self.assertIs(caught.exception.name, thing)

    def test_two_desks_have_nothing_in_common(self):
        one, other = desk_with(SWAP_LINE), desk_with(PLAIN_LINE)
        self.assertEqual((one.tell("names"), other.tell("names")), ("a", "p"))


class TryingTest(unittest.TestCase):
    def test_all_is_as_it_was(self):
        desk = desk_with(SWAP_LINE, PLAIN_LINE)
        look = look_of(desk)
        with desk.trying():
            for line in ("drop a", "strike p b 2-0", "undo", "undo", "undo", "wishes new 1:|", "drop new", "drop a"):
                self.assertEqual(desk.tell(line), "ok")
        self.assertEqual(look_of(desk), look)
        for name in ("p", "a"):
            self.assertEqual(desk.tell("undo"), "ok")
        self.assertEqual(look_of(desk), ([], 0))

    def test_inside_the_block_it_is_changed(self):
        desk = Desk()
        with desk.trying():
            desk.tell(SWAP_LINE)
            self.assertEqual(desk.kept("a"), helper.SWAP)
            self.assertEqual(desk.undoable(), 1)
        self.assertEqual(look_of(desk), ([], 0))

    def test_it_ends_by_an_error(self):
        desk = desk_with(SWAP_LINE)
        look = look_of(desk)
        with self.assertRaises(NoName):
            with desk.trying():
                desk.tell("undo")
                desk.tell("drop a")
        self.assertEqual(look_of(desk), look)
        with self.assertRaises(ZeroDivisionError):
            with desk.trying():
                desk.tell("drop a")
                raise ZeroDivisionError()
        self.assertEqual(look_of(desk), look)

    def test_without_a_block_nothing_changes(self):
        desk = desk_with(SWAP_LINE)
        trial = desk.trying()
        desk.tell(PLAIN_LINE)
        look = look_of(desk)
        with trial:
            desk.tell("drop p")
        self.assertEqual(look_of(desk), look)

    def test_blocks_in_blocks(self):
        desk = desk_with(SWAP_LINE)
        with desk.trying():
            desk.tell(PLAIN_LINE)
            look = look_of(desk)
            with desk.trying():
                desk.tell("undo")
                desk.tell("undo")
            self.assertEqual(look_of(desk), look)
            desk.tell("drop a")
        self.assertEqual(look_of(desk), ([("a", helper.lists_of(helper.SWAP))], 1))

    def test_would(self):
        desk = desk_with(SWAP_LINE)
        look = look_of(desk)
        for line, answer in [("drop a", "ok"), ("undo", "ok"), ("names", "a"), (PLAIN_LINE, "ok"), ("settles a", "no"),
                             ("strike a a 1-0", "ok"), ("fail a z 1-2", "ok"), ("outcomes a", "1-0 2-1-0; 1-2-0 2-0")]:
            self.assertEqual(desk.would(line), answer)
            self.assertEqual(look_of(desk), look)


if __name__ == "__main__":
    unittest.main()

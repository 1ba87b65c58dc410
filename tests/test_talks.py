import unittest

from tests import helper
from tests.helper import APART, BAD, BARE, LONE, LONG, PLAIN, SWAP
from wishreels.errors import BadNumber, BadStand, BadStep
from wishreels.outcomes import outcomes
from wishreels.talks import Talk, begin, done, due, is_stand, steps
from wishreels.wishes import Wishes

# Lines are (1, 2) and (2, 1): what 2 keeps of 1, and what 1 keeps of 2.
REST = (((0,), (1, 0), (2, 1, 0)), ((1, 0), ()))
CHANGING = [("choose", 1), ("tell", 1, 2), ("choose", 2), ("tell", 2, 1)]


def wrong_steps():
    """What is no step of SWAP."""
    return helper.wrong_things() + [
        (), ("choose",), ("choose", 0), ("choose", 3), ("choose", -1), ("choose", True), ("choose", "1"),
        ("choose", None), ("choose", 1, 2), ("choose", 1, None), ["choose", 1], ("choose", (1,)), ("tell",),
        ("tell", 1), ("tell", 1, 1), ("tell", 0, 1), ("tell", 1, 0), ("tell", 1, 3), ("tell", True, 2),
        ("tell", 2, True), ("tell", 1, 2, 0), ["tell", 1, 2], ("tell", (1, 2)), ("tell", [1], 2), ("Tell", 1, 2),
        ("tell ", 1, 2), (b"tell", 1, 2), (b"choose", 1), ("choose", {1}), ("choose", SWAP), (SWAP, 1),
        (("choose", 1),), ("tell", "1", "2"), (1, "choose"), ("choose", 10 ** 29), ("choose", [1]), ("tell", {}, 2), "choose 1",
    ]


class StandsTest(unittest.TestCase):
    def test_steps(self):
        self.assertEqual(steps(SWAP), [("tell", 1, 2), ("tell", 2, 1), ("choose", 1), ("choose", 2)])
        self.assertEqual(steps(BARE), [("choose", 1)])
        self.assertEqual(steps(APART), [("choose", 1), ("choose", 2), ("choose", 3)])
        for wishes in helper.some_wishes(31, 30, 2, 8, 6):
            self.assertEqual(steps(wishes), helper.steps_of(wishes))

    def test_the_list_is_new(self):
        steps(SWAP).clear()
        self.assertEqual(len(steps(SWAP)), 4)

    def test_begin(self):
        self.assertEqual(begin(SWAP), (((0,), (), ()), ((), ())))
        self.assertEqual(begin(BARE), (((0,), ()), ()))
        for wishes in helper.some_wishes(32, 30, 2, 8, 6):
            self.assertEqual(begin(wishes), helper.begin_of(wishes))
            self.assertIs(is_stand(wishes, begin(wishes)), True)

    def test_all_stands_are_stands(self):
        for wishes in helper.tiny_wishes() + [PLAIN, SWAP, APART]:
            for stand in helper.stands_of(wishes):
                self.assertIs(is_stand(wishes, stand), True)

    def test_what_is_no_stand(self):
        for wishes in (SWAP, BARE, LONE, BAD):
            for thing in helper.wrong_things() + [(), ((), ()), [begin(wishes)], begin(wishes)[0], list(begin(wishes))]:
                self.assertIs(is_stand(wishes, thing), False)
            for stand in helper.stands_of(wishes)[::7]:
                for thing in helper.spoiled(stand):
                    self.assertIs(is_stand(wishes, thing), False)

    def test_ways_that_are_not_let_there(self):
        for takes, told in [
                (((0,), (2, 0), ()), ((), ())), (((0,), (1, 0), (1, 0)), ((), ())), (((), (), ()), ((), ())),
                (((0,), (), ()), ((2, 0), ())), (((0,), (), ()), ((1, 2, 0), ())), (((0,), (), ()), ((), (0,))),
                (((0,), (), ()), ((),)), (((0,), (), ()), ((), (), ())), (((0,), ()), ((), ())),
                (((0,), (), (), ()), ((), ()))]:
            self.assertIs(is_stand(SWAP, (takes, told)), False)
        self.assertIs(is_stand(PLAIN, begin(SWAP)), False)
        self.assertIs(is_stand(PLAIN, (((0,), (), ()), ((2, 0),))), False)

    def test_the_goal_has_its_way(self):
        for way in [(), (False,), [0], (0, 0), None]:
            self.assertIs(is_stand(LONE, ((way, ()), ())), False)


class DoneTest(unittest.TestCase):
    def test_each_step_at_each_stand(self):
        for wishes in helper.tiny_wishes() + [PLAIN, SWAP, APART]:
            for stand in helper.stands_of(wishes):
                for step in steps(wishes):
                    self.assertEqual(done(wishes, stand, step), helper.behind(wishes, stand, step))

    def test_along_rows_of_steps(self):
        for wishes in helper.some_wishes(33, 15, 4, 8, 6):
            stand = begin(wishes)
            listed = steps(wishes)
            for turn in range(60):
                step = listed[turn * 7919 % len(listed)]
                later = helper.behind(wishes, stand, step)
                self.assertEqual(done(wishes, stand, step), later)
                self.assertIs(is_stand(wishes, later), True)
                stand = later

    def test_a_telling(self):
        taken = (((0,), (1, 0), (2, 0)), ((), ()))
        self.assertEqual(done(SWAP, taken, ("tell", 1, 2)), (taken[0], ((1, 0), ())))
        self.assertEqual(done(SWAP, taken, ("tell", 2, 1)), (taken[0], ((), (2, 0))))

    def test_what_the_hearer_cannot_use_is_told_as_none(self):
        stand = (((0,), (1, 2, 0), (2, 0)), ((1, 0), ()))
        self.assertEqual(done(SWAP, stand, ("tell", 1, 2)), (stand[0], ((), ())))

    def test_a_choice_goes_by_what_was_told(self):
        stand = (((0,), (), ()), ((), (2, 0)))
        self.assertEqual(done(SWAP, stand, ("choose", 1)), (((0,), (1, 2, 0), ()), ((), (2, 0))))
        only = Wishes(((), ((1, 0),), ((2, 1, 0),)))
        taken = (((0,), (1, 0), (2, 1, 0)), ((),))
        self.assertEqual(done(only, taken, ("choose", 2)), (((0,), (1, 0), ()), ((),)))

    def test_a_step_that_changes_nothing(self):
        for step in steps(SWAP):
            self.assertEqual(done(SWAP, REST, step), REST)

    def test_due(self):
        self.assertEqual(due(SWAP, begin(SWAP)), [("choose", 1), ("choose", 2)])
        self.assertEqual(due(SWAP, REST), [])
        self.assertEqual(due(BARE, begin(BARE)), [])
        for wishes in helper.tiny_wishes() + [PLAIN, SWAP]:
            for stand in helper.stands_of(wishes):
                changes = [step for step in helper.steps_of(wishes) if helper.behind(wishes, stand, step) != stand]
                self.assertEqual(due(wishes, stand), changes)

    def test_stands_at_rest_are_the_outcomes(self):
        for wishes in helper.tiny_wishes() + [PLAIN, SWAP, APART]:
            rests = [stand for stand in helper.stands_of(wishes) if not due(wishes, stand)]
            self.assertEqual(sorted(takes for takes, _ in rests), outcomes(wishes))

    def test_wrong_stands(self):
        for thing in helper.wrong_things() + list(helper.spoiled(REST)):
            with self.assertRaises(BadStand):
                due(SWAP, thing)
            for step in [("choose", 1), ("choose", 0), None, thing]:
                with self.assertRaises(BadStand):
                    done(SWAP, thing, step)

    def test_wrong_steps(self):
        for thing in wrong_steps():
            with self.assertRaises(BadStep) as caught:
                done(SWAP, REST, thing)
            self.assertIs(caught.exception.step, thing)

    def test_nothing_is_changed(self):
        look = helper.frozen(self, SWAP, REST, ("choose", 1))
        done(SWAP, REST, ("choose", 1))
        due(SWAP, REST).append(None)
        self.assertEqual(due(SWAP, REST), [])
        look()


class TalkTest(unittest.TestCase):
    def setUp(self):
        self.talk = Talk(SWAP)

    def state(self):
        return (self.talk.stand, self.talk.many)

    def test_at_first(self):
        self.assertEqual(self.state(), (begin(SWAP), 0))

    def test_do(self):
        self.assertIs(self.talk.do(("choose", 1)), True)
        self.assertEqual(self.state(), (done(SWAP, begin(SWAP), ("choose", 1)), 1))
        self.assertIs(self.talk.do(("choose", 1)), False)
        self.assertEqual(self.state(), (done(SWAP, begin(SWAP), ("choose", 1)), 2))

    def test_do_wrong_steps(self):
        self.talk.do(("choose", 1))
        kept = self.state()
        for thing in wrong_steps():
            with self.assertRaises(BadStep) as caught:
                self.talk.do(thing)
            self.assertIs(caught.exception.step, thing)
            self.assertEqual(self.state(), kept)

    def test_run(self):
        self.assertEqual(self.talk.run([]), 0)
        self.assertEqual(self.talk.run(()), 0)
        self.assertEqual(self.talk.run([("tell", 1, 2), ("choose", 1), ("choose", 1)]), 1)
        self.assertEqual(self.talk.many, 3)
        self.assertEqual(self.talk.run((("tell", 1, 2), ("choose", 2), ("tell", 2, 1))), 2)
        self.assertEqual(self.state(), (REST, 6))

    def test_run_what_is_no_row(self):
        for thing in helper.wrong_things() + [{("choose", 1): True}, {("choose", 1)}, iter([("choose", 1)]), "choose"]:
            if not isinstance(thing, (list, tuple)):
                for run in (self.talk.run, self.talk.ahead):
                    with self.assertRaises(BadStep) as caught:
                        run(thing)
                    self.assertIs(caught.exception.step, thing)
                    self.assertEqual(self.state(), (begin(SWAP), 0))

    def test_run_looks_at_all_first(self):
        for thing in wrong_steps():
            for row in ([("choose", 1), thing, None], (("choose", 1), thing), [thing] * 2, (thing,)):
                for run in (self.talk.run, self.talk.ahead):
                    with self.assertRaises(BadStep) as caught:
                        run(row)
                    self.assertIs(caught.exception.step, thing)
                    self.assertEqual(self.state(), (begin(SWAP), 0))

    def test_a_step_is_no_row_of_steps(self):
        with self.assertRaises(BadStep) as caught:
            self.talk.run(("choose", 1))
        self.assertEqual(caught.exception.step, "choose")

    def test_back(self):
        stands = [self.talk.stand]
        for step in CHANGING + CHANGING:
            self.talk.do(step)
            stands.append(self.talk.stand)
        self.assertIsNone(self.talk.back(1))
        self.assertEqual(self.state(), (stands[7], 7))
        self.assertIsNone(self.talk.back(3))
        self.assertEqual(self.state(), (stands[4], 4))
        self.assertIsNone(self.talk.back(self.talk.many))
        self.assertEqual(self.state(), (stands[0], 0))
        self.talk.run(CHANGING)
        self.assertEqual(self.state(), (stands[4], 4))

    def test_back_by_wrong_numbers(self):
        for thing in helper.wrong_things() + [0, 1, -1, (), [1]]:
            with self.assertRaises(BadNumber):
                self.talk.back(thing)
        self.talk.run(CHANGING)
        kept = self.state()
        for thing in helper.wrong_things() + [0, 5, -1, -4, (), [1], "1"]:
            with self.assertRaises(BadNumber):
                self.talk.back(thing)
            self.assertEqual(self.state(), kept)

    def test_trying(self):
        self.talk.run(CHANGING[:2])
        kept = self.state()
        with self.talk.trying():
            self.assertEqual(self.state(), kept)
            self.talk.run(CHANGING[2:])
            self.assertNotEqual(self.state(), kept)
        self.assertEqual(self.state(), kept)

    def test_trying_with_steps_taken_back(self):
        self.talk.run(CHANGING)
        kept = self.state()
        with self.talk.trying():
            self.talk.back(4)
            self.talk.do(("choose", 2))
            with self.talk.trying():
                self.talk.back(1)
                self.talk.run(CHANGING * 3)
            self.assertEqual(self.state(), (done(SWAP, begin(SWAP), ("choose", 2)), 1))
        self.assertEqual(self.state(), kept)
        for many in (3, 2, 1, 0):
            self.talk.back(1)
            other = Talk(SWAP)
            other.run(CHANGING[:many])
            self.assertEqual(self.state(), (other.stand, other.many))

    def test_steps_behind_a_block_can_be_taken_back(self):
        for inside in (CHANGING, [("choose", 2)], []):
            talk = Talk(SWAP)
            stands = [talk.stand]
            for step in CHANGING:
                with talk.trying():
                    talk.run(inside)
                talk.do(step)
                talk.ahead(inside)
                stands.append(talk.stand)
            for many in (3, 2, 1, 0):
                talk.back(1)
                self.assertEqual((talk.stand, talk.many), (stands[many], many))

    def test_steps_taken_back_in_a_block_are_there_behind_it(self):
        self.talk.run(CHANGING)
        with self.talk.trying():
            self.talk.back(4)
        for many in (3, 2, 1, 0):
            self.talk.back(1)
            self.assertEqual(self.talk.stand, Talk(SWAP).ahead(CHANGING[:many]))

    def test_trying_ended_by_errors(self):
        self.talk.do(("choose", 1))
        kept = self.state()
        with self.assertRaises(ZeroDivisionError):
            with self.talk.trying():
                self.talk.run(CHANGING)
                raise ZeroDivisionError()
        self.assertEqual(self.state(), kept)
        with self.assertRaises(BadNumber):
            with self.talk.trying():
                self.talk.back(1)
                self.talk.back(1)
        self.assertEqual(self.state(), kept)

    def test_trying_without_a_block(self):
        trial = self.talk.trying()
        self.talk.do(("choose", 1))
        kept = self.state()
        self.talk.trying()
        self.assertEqual(self.state(), kept)
        with trial:
            self.talk.do(("choose", 2))
        self.assertEqual(self.state(), kept)

    def test_ahead(self):
        self.talk.do(CHANGING[0])
        kept = self.state()
        row = CHANGING[1:]
        self.assertEqual(self.talk.ahead(row), REST)
        self.assertEqual(self.talk.ahead(tuple(row)), REST)
        self.assertEqual(self.talk.ahead([]), kept[0])
        self.assertEqual(self.state(), kept)
        self.assertEqual(row, CHANGING[1:])
        self.talk.back(1)
        self.assertEqual(self.state(), (begin(SWAP), 0))

    def test_to_rest(self):
        self.assertIs(self.talk.to_rest(0), False)
        self.assertEqual(self.talk.many, 0)
        self.assertIs(self.talk.to_rest(1), False)
        self.assertEqual(self.state(), (done(SWAP, begin(SWAP), ("choose", 1)), 1))
        self.assertIs(self.talk.to_rest(10000), True)
        self.assertEqual(self.state(), (REST, 3))
        self.assertIs(self.talk.to_rest(0), True)
        self.assertIs(self.talk.to_rest(10000), True)
        self.assertEqual(self.state(), (REST, 3))
        self.talk.back(3)
        self.assertEqual(self.talk.stand, begin(SWAP))

    def test_to_rest_at_its_limit(self):
        self.assertIs(self.talk.to_rest(2), False)
        self.talk.back(2)
        self.assertIs(self.talk.to_rest(3), True)

    def test_to_rest_does_the_first_due_step(self):
        for wishes in helper.some_wishes(34, 20, 3, 8, 5):
            talk = Talk(wishes)
            stand = begin(wishes)
            for _ in range(25):
                row = due(wishes, stand)
                if row:
                    self.assertIs(talk.to_rest(1), len(due(wishes, done(wishes, stand, row[0]))) == 0)
                    stand = done(wishes, stand, row[0])
                    self.assertEqual(talk.stand, stand)

    def test_to_rest_that_never_comes(self):
        talk = Talk(BAD)
        self.assertIs(talk.to_rest(10000), False)
        self.assertEqual(talk.many, 10000)

    def test_to_rest_of_wrong_numbers(self):
        for thing in helper.wrong_things() + [10001, -1, (), [5], "5"]:
            if thing is not True and thing is not False and isinstance(thing, int) and 0 <= thing <= 10000:
                continue
            with self.assertRaises(BadNumber):
                self.talk.to_rest(thing)
            self.assertEqual(self.state(), (begin(SWAP), 0))

    def test_talks_by_themselves(self):
        other = Talk(SWAP)
        self.talk.run(CHANGING)
        self.assertEqual((other.stand, other.many), (begin(SWAP), 0))

    def test_nothing_else_is_changed(self):
        row = list(CHANGING)
        look = helper.frozen(self, SWAP, row)
        self.talk.run(row)
        self.talk.ahead(row)
        self.talk.to_rest(100)
        look()

    def test_a_long_row(self):
        talk = Talk(LONG)
        row = [step for v in range(1, 7) for step in (("choose", v), ("tell", v, v + 1))] + [("choose", 7)]
        self.assertEqual(talk.run(row), 13)
        self.assertEqual(talk.stand[0], outcomes(LONG)[0])
        self.assertEqual(due(LONG, talk.stand), [])


if __name__ == "__main__":
    unittest.main()

"""Points 31 to 35: the loom, its deeds, and what it tells; points 1 and 5 of them."""

import random
import unittest

from heddle.drafts import Draft, woven
from heddle.errors import NoDeed, NoDraft, TooLarge
from heddle.loom import Loom

THREADING = [0, 1, 2, 3, 2, 1]
TIES = [[0, 2], [1, 3], [0], [], [2, 3, 7]]


def told(loom):
    """All that a loom tells."""
    draft = None
    if loom.cloth():
        draft = (loom.draft().threading, loom.draft().ties, loom.draft().treading)
    return (loom.treadles_down(), loom.shed(), loom.cloth(), loom.colours(), loom.deeds_done(), draft)


class LoomTest(unittest.TestCase):
    def setUp(self):
        self.loom = Loom(THREADING, TIES)

    def assert_refused(self, refusal, deed, *things):
        before = told(self.loom)
        with self.assertRaises(refusal):
            deed(*things)
        self.assertEqual(told(self.loom), before)

    def assert_draft(self, ties, treading):
        draft = self.loom.draft()
        self.assertIsInstance(draft, Draft)
        self.assertEqual((draft.threading, draft.ties, draft.treading), (THREADING, ties, treading))
        self.assertEqual(woven(draft), self.loom.cloth())


class TestSetting(LoomTest):
    def test_at_first(self):
        self.assertEqual(self.loom.treadles_down(), [])
        self.assertEqual(self.loom.shed(), "......")
        self.assertEqual(self.loom.cloth(), [])
        self.assertEqual(self.loom.colours(), [])
        self.assertEqual(self.loom.deeds_done(), 0)

    def test_bounds(self):
        self.assertEqual(Loom([0], [[]]).shed(), ".")
        large = Loom([39] * 40, [[39]] * 40)
        large.press(39)
        self.assertEqual(large.shed(), "#" * 40)

    def test_lists_that_do_not_fit(self):
        for threading, ties in (([], [[0]]), ([0] * 41, [[0]]), ([0], []), ([0], [[0]] * 41), ([-1], [[0]]),
                                ([40], [[0]]), ([0], [[-1]]), ([0], [[40]]), ([0], [[0, 0]]), ([0], [[1, 0]]),
                                ([0], [[0], [2, 3, 3]]), ([10 ** 69], [[0]])):
            with self.assertRaises(NoDraft):
                Loom(threading, ties)

    def test_its_lists_are_its_own(self):
        threading, ties = [0, 1], [[0], [1]]
        loom = Loom(threading, ties)
        threading[0] = 1
        threading.append(0)
        ties[0].append(1)
        ties[1] = []
        ties.append([0])
        loom.press(0)
        self.assertEqual(loom.shed(), "#.")
        loom.press(1)
        self.assertEqual(loom.shed(), "##")
        with self.assertRaises(NoDeed):
            loom.press(2)

    def test_ties_that_are_handed_in_as_one_list(self):
        tie = [0]
        loom = Loom([0, 1], [tie, tie])
        loom.press(1)
        loom.throw("a")
        tie.append(1)
        self.assertEqual((loom.shed(), loom.cloth()), ("#.", ["#."]))


class TestDeeds(LoomTest):
    def test_what_deeds_tell(self):
        self.assertIsNone(self.loom.press(0))
        self.assertIsNone(self.loom.lift(0))
        self.assertIsNone(self.loom.throw("q"))
        self.assertEqual(self.loom.unthrow(), "q")
        self.assertIsNone(self.loom.undo())
        self.assertIs(type(self.loom.deeds_done()), int)

    def test_the_shed_by_several_treadles(self):
        for treadles, shed in (([0], "#.#.#."), ([1], ".#.#.#"), ([2], "#....."), ([3], "......"), ([4], "..###."),
                               ([2, 4], "#.###."), ([0, 4], "#.###."), ([0, 1], "######"), ([4, 3, 2, 1, 0], "######"),
                               ([2, 1], "##.#.#")):
            loom = Loom(THREADING, TIES)
            for treadle in treadles:
                loom.press(treadle)
            self.assertEqual(loom.shed(), shed)
            self.assertEqual(loom.treadles_down(), sorted(treadles))

    def test_lift_takes_its_own_shafts_alone(self):
        self.loom.press(0)
        self.loom.press(2)
        self.loom.lift(0)
        self.assertEqual(self.loom.shed(), "#.....")
        self.loom.lift(2)
        self.assertEqual(self.loom.shed(), "......")

    def test_treadles_down_rises(self):
        for treadle in (4, 0, 3):
            self.loom.press(treadle)
        self.assertEqual(self.loom.treadles_down(), [0, 3, 4])
        self.loom.lift(3)
        self.loom.press(1)
        self.assertEqual(self.loom.treadles_down(), [0, 1, 4])
        self.loom.lift(0)
        self.loom.undo()
        self.assertEqual(self.loom.treadles_down(), [0, 1, 4])

    def test_treadles_stay_at_throw_and_unthrow(self):
        self.loom.press(1)
        self.loom.throw("a")
        self.assertEqual((self.loom.treadles_down(), self.loom.shed()), ([1], ".#.#.#"))
        self.loom.unthrow()
        self.assertEqual((self.loom.treadles_down(), self.loom.shed()), ([1], ".#.#.#"))

    def test_picks_are_as_they_were_when_thrown(self):
        self.loom.throw("z")
        self.loom.press(0)
        self.loom.throw("a")
        self.loom.press(1)
        self.loom.throw("b")
        self.loom.lift(0)
        self.loom.throw("b")
        self.loom.lift(1)
        self.assertEqual(self.loom.cloth(), ["......", "#.#.#.", "######", ".#.#.#"])
        self.assertEqual(self.loom.colours(), ["z", "a", "b", "b"])

    def test_unthrow_takes_the_last_pick(self):
        for treadle, colour in ((0, "a"), (1, "b")):
            self.loom.press(treadle)
            self.loom.throw(colour)
        self.assertEqual(self.loom.unthrow(), "b")
        self.assertEqual((self.loom.cloth(), self.loom.colours()), (["#.#.#."], ["a"]))
        self.assertEqual(self.loom.unthrow(), "a")
        self.assertEqual((self.loom.cloth(), self.loom.colours()), ([], []))

    def test_deeds_done(self):
        for k, deed in enumerate((lambda: self.loom.press(0), lambda: self.loom.throw("a"), lambda: self.loom.lift(0),
                                  self.loom.unthrow, lambda: self.loom.press(4)), start=1):
            deed()
            self.assertEqual(self.loom.deeds_done(), k)
        for k in (4, 3, 2, 1, 0):
            self.loom.undo()
            self.assertEqual(self.loom.deeds_done(), k)


class TestRefusals(LoomTest):
    def test_press(self):
        self.loom.press(0)
        self.assert_refused(NoDeed, self.loom.press, 0)
        for treadle in (-1, -5, 5, 6, 40, 10 ** 69, -10 ** 69):
            self.assert_refused(NoDeed, self.loom.press, treadle)
        self.loom.press(4)
        self.assertEqual(self.loom.treadles_down(), [0, 4])

    def test_lift(self):
        self.assert_refused(NoDeed, self.loom.lift, 0)
        self.loom.press(4)
        self.assert_refused(NoDeed, self.loom.lift, 0)
        for treadle in (-1, -5, 5, 6, 40, 10 ** 69, -10 ** 69):
            self.assert_refused(NoDeed, self.loom.lift, treadle)
        self.loom.lift(4)
        self.assert_refused(NoDeed, self.loom.lift, 4)

    def test_unthrow(self):
        self.assert_refused(NoDeed, self.loom.unthrow)
        self.loom.throw("a")
        self.loom.unthrow()
        self.assert_refused(NoDeed, self.loom.unthrow)

    def test_undo(self):
        self.assert_refused(NoDeed, self.loom.undo)
        self.loom.press(0)
        self.loom.undo()
        self.assert_refused(NoDeed, self.loom.undo)

    def test_the_41st_throw(self):
        self.loom.press(0)
        for k in range(40):
            self.loom.throw("abcdefghijklmnopqrstuvwxyz"[k % 26])
        self.assertEqual(len(self.loom.cloth()), 40)
        self.assert_refused(TooLarge, self.loom.throw, "a")
        self.loom.press(1)
        self.assert_refused(TooLarge, self.loom.throw, "a")
        self.assertEqual(self.loom.deeds_done(), 42)
        self.loom.unthrow()
        self.loom.throw("q")
        self.assertEqual(self.loom.colours()[38:], ["m", "q"])
        self.assertEqual(self.loom.cloth()[38:], ["#.#.#.", "######"])
        self.assert_refused(TooLarge, self.loom.throw, "a")

    def test_draft(self):
        self.assert_refused(NoDeed, self.loom.draft)
        self.loom.press(0)
        self.assert_refused(NoDeed, self.loom.draft)
        self.loom.throw("a")
        self.loom.unthrow()
        self.assert_refused(NoDeed, self.loom.draft)

    def test_a_refused_deed_is_no_deed(self):
        self.loom.press(0)
        self.loom.throw("a")
        for deed, thing in ((self.loom.press, 0), (self.loom.lift, 1), (self.loom.press, 9), (self.loom.lift, -1)):
            self.assert_refused(NoDeed, deed, thing)
        self.assertEqual(self.loom.deeds_done(), 2)
        self.loom.undo()
        self.assertEqual((self.loom.treadles_down(), self.loom.cloth()), ([0], []))


class TestUndo(LoomTest):
    def test_of_press(self):
        self.loom.press(0)
        self.loom.press(4)
        self.loom.undo()
        self.assertEqual(self.loom.treadles_down(), [0])
        self.assertEqual(self.loom.shed(), "#.#.#.")

    def test_of_lift(self):
        self.loom.press(0)
        self.loom.press(4)
        self.loom.lift(0)
        self.loom.undo()
        self.assertEqual(self.loom.treadles_down(), [0, 4])
        self.assertEqual(self.loom.shed(), "#.###.")

    def test_of_throw(self):
        self.loom.press(0)
        self.loom.throw("a")
        self.loom.throw("b")
        self.loom.undo()
        self.assertEqual((self.loom.cloth(), self.loom.colours()), (["#.#.#."], ["a"]))
        self.assertEqual(self.loom.treadles_down(), [0])

    def test_of_unthrow_brings_back_colour_and_signs(self):
        self.loom.press(0)
        self.loom.throw("a")
        self.loom.lift(0)
        self.loom.press(1)
        self.loom.unthrow()
        self.loom.undo()
        self.assertEqual((self.loom.cloth(), self.loom.colours()), (["#.#.#."], ["a"]))
        self.assertEqual(self.loom.treadles_down(), [1])
        self.assert_draft([[0, 2]], [0])

    def test_new_deeds_behind_an_undo(self):
        self.loom.press(0)
        self.loom.throw("a")
        self.loom.throw("b")
        self.loom.undo()
        self.loom.press(1)
        self.loom.throw("c")
        self.assertEqual(self.loom.deeds_done(), 4)
        self.assertEqual((self.loom.cloth(), self.loom.colours()), (["#.#.#.", "######"], ["a", "c"]))
        self.loom.undo()
        self.loom.undo()
        self.assertEqual((self.loom.cloth(), self.loom.treadles_down()), (["#.#.#."], [0]))
        self.loom.undo()
        self.loom.undo()
        self.assertEqual(told(self.loom), told(Loom(THREADING, TIES)))

    def test_of_many_in_turn(self):
        source = random.Random("loom")
        # Each state is kept from outside, and undo has to go back through all of them.
        past = [told(self.loom)]
        for _ in range(3000):
            deed = source.choice(("press", "lift", "throw", "throw", "unthrow", "undo", "undo"))
            before = told(self.loom)
            try:
                if deed in ("press", "lift"):
                    getattr(self.loom, deed)(source.randrange(5))
                elif deed == "throw":
                    self.loom.throw(source.choice("abc"))
                else:
                    getattr(self.loom, deed)()
            except (NoDeed, TooLarge):
                self.assertEqual(told(self.loom), before)
                continue
            if deed == "undo":
                past.pop()
                self.assertEqual(told(self.loom), past[-1])
            else:
                past.append(told(self.loom))
            self.assertEqual(self.loom.deeds_done(), len(past) - 1)
        while len(past) > 1:
            self.loom.undo()
            past.pop()
            self.assertEqual(told(self.loom), past[-1])


class TestDraft(LoomTest):
    def test_sets_in_the_order_in_which_they_first_come(self):
        self.loom.press(1)
        self.loom.throw("a")
        self.loom.lift(1)
        self.loom.press(0)
        self.loom.throw("a")
        self.loom.press(1)
        self.loom.throw("a")
        self.loom.lift(0)
        self.loom.throw("a")
        self.assert_draft([[1, 3], [0, 2], [0, 1, 2, 3]], [0, 1, 2, 0])

    def test_different_treadles_that_lift_the_same_set(self):
        loom = Loom([0, 1], [[0], [1], [0], [0, 1], []])
        for treadles in ([0], [2], [0, 2], [0, 1], [3], [1, 2], [], [4], [0, 4]):
            for treadle in treadles:
                loom.press(treadle)
            loom.throw("a")
            for treadle in treadles:
                loom.lift(treadle)
        draft = loom.draft()
        self.assertEqual(draft.ties, [[0], [0, 1], []])
        self.assertEqual(draft.treading, [0, 0, 0, 1, 1, 1, 2, 2, 0])
        self.assertEqual(woven(draft), loom.cloth())

    def test_shafts_that_have_no_end(self):
        # Two sets that differ by a shaft without an end make the same signs, and are two treadles all the same.
        loom = Loom([0, 1], [[0], [0, 9], [30]])
        for treadles in ([1], [0], [2], [0, 2]):
            for treadle in treadles:
                loom.press(treadle)
            loom.throw("a")
            for treadle in treadles:
                loom.lift(treadle)
        draft = loom.draft()
        self.assertEqual((draft.ties, draft.treading), ([[0, 9], [0], [30], [0, 30]], [0, 1, 2, 3]))
        self.assertEqual(loom.cloth(), ["#.", "#.", "..", "#."])
        self.assertEqual(woven(draft), loom.cloth())

    def test_picks_taken_off_leave_no_treadle(self):
        self.loom.press(0)
        self.loom.throw("a")
        self.loom.lift(0)
        self.loom.press(1)
        self.loom.unthrow()
        self.loom.throw("b")
        self.assert_draft([[1, 3]], [0])

    def test_nothing_lifted(self):
        self.loom.throw("a")
        self.assert_draft([[]], [0])

    def test_40_picks_over_40_sets(self):
        loom = Loom(list(range(40)), [[k] for k in range(40)])
        for k in range(40):
            loom.press(k)
            loom.throw("a")
        draft = loom.draft()
        self.assertEqual(draft.ties, [list(range(k + 1)) for k in range(40)])
        self.assertEqual(draft.treading, list(range(40)))
        self.assertEqual(woven(draft), loom.cloth())


class TestTheAskersOwn(LoomTest):
    def test_changing_told_lists_changes_nothing(self):
        self.loom.press(0)
        self.loom.throw("a")
        self.loom.throw("b")
        before = told(self.loom)
        draft = self.loom.draft()
        for changed in (self.loom.treadles_down(), self.loom.cloth(), self.loom.colours(), draft.threading, draft.ties,
                        draft.treading, draft.ties[0]):
            changed.append("more")
            changed[0] = "changed"
        self.assertEqual(told(self.loom), before)
        self.loom.undo()
        self.loom.undo()
        self.assertEqual((self.loom.shed(), self.loom.cloth()), ("#.#.#.", []))

    def test_later_deeds_do_not_change_what_was_told(self):
        self.loom.press(0)
        self.loom.throw("a")
        kept = (self.loom.treadles_down(), self.loom.cloth(), self.loom.colours(), self.loom.draft().ties)
        self.loom.press(1)
        self.loom.throw("b")
        self.loom.undo()
        self.loom.unthrow()
        self.loom.throw("c")
        self.assertEqual(kept, ([0], ["#.#.#."], ["a"], [[0, 2]]))

    def test_two_looms_are_apart(self):
        other = Loom(THREADING, TIES)
        self.loom.press(0)
        self.loom.throw("a")
        self.assertEqual(told(other), told(Loom(THREADING, TIES)))


if __name__ == "__main__":
    unittest.main()

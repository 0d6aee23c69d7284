"""Points 21, 22 and 23: drafts, what they weave, and the least draft of a cloth; points 1, 3 and 5 of them."""

import unittest

from heddle.drafts import Draft, least_draft, woven
from heddle.errors import NoCloth, NoDraft
from samples import NO_CLOTHS, small_cloths, some_cloths


def parts(draft):
    return (draft.threading, draft.ties, draft.treading)


class TestWhatIsADraft(unittest.TestCase):
    def assert_taken(self, threading, ties, treading):
        self.assertEqual(parts(Draft(threading, ties, treading)), (threading, ties, treading))

    def assert_no_draft(self, threading, ties, treading):
        with self.subTest(threading=threading[:5], ties=ties[:5], treading=treading[:5]):
            with self.assertRaises(NoDraft):
                Draft(threading, ties, treading)

    def test_one_of_each(self):
        self.assert_taken([0], [[0]], [0])
        self.assert_taken([0], [[]], [0])

    def test_40_of_each(self):
        self.assert_taken(list(range(40)), [[k] for k in range(40)], list(range(40)))
        self.assert_taken([0] * 40, [[0]], [0])
        self.assert_taken([0], [[0]] * 40, [0])
        self.assert_taken([0], [[0]], [0] * 40)
        self.assert_taken([0], [list(range(40))], [0])

    def test_none_of_each(self):
        self.assert_no_draft([], [[0]], [0])
        self.assert_no_draft([0], [], [0])
        self.assert_no_draft([0], [], [])
        self.assert_no_draft([0], [[0]], [])
        self.assert_no_draft([], [], [])

    def test_41_of_each(self):
        self.assert_no_draft([0] * 41, [[0]], [0])
        self.assert_no_draft([0], [[0]] * 41, [0])
        self.assert_no_draft([0], [[0]], [0] * 41)

    def test_the_least_and_the_greatest_shaft(self):
        self.assert_taken([0, 39], [[0, 39]], [0])
        self.assert_taken([39], [[39]], [0])
        for shaft in (-1, 40, 41, -40, 10 ** 69, -10 ** 69):
            self.assert_no_draft([shaft], [[0]], [0])
            self.assert_no_draft([0, 1, shaft], [[0]], [0])
            self.assert_no_draft([0], [[shaft]], [0])
            self.assert_no_draft([0], [[0], [shaft]], [0])
        self.assert_no_draft([0], [[38, 39, 40]], [0])
        self.assert_no_draft([0], [[-1, 0]], [0])

    def test_ties_that_do_not_rise(self):
        for tie in ([0, 0], [1, 0], [0, 1, 1], [0, 2, 1], [3, 3, 4], [5, 4, 6], [0, 1, 2, 2]):
            self.assert_no_draft([0], [tie], [0])
            self.assert_no_draft([0], [[0], [0, 1], tie], [0])
            self.assert_no_draft([0], [tie, [0]], [1])

    def test_treadles_that_have_no_tie(self):
        for treadle in (-1, -2, 2, 3, 40, 10 ** 69, -10 ** 69):
            self.assert_no_draft([0], [[0], []], [treadle])
            self.assert_no_draft([0], [[0], []], [0, 1, treadle])
            self.assert_no_draft([0], [[0], []], [treadle, 0])
        self.assert_taken([0], [[0], []], [1, 0, 1])

    def test_empty_ties_shafts_without_ends_and_untrodden_treadles(self):
        self.assert_taken([0, 1], [[], [0]], [0, 1])
        self.assert_taken([0, 1], [[], [], []], [0])
        self.assert_taken([0, 1], [[0, 7, 39]], [0])
        self.assert_taken([0, 1], [[0], [1], [0, 1]], [1])

    def test_its_lists_are_its_own(self):
        threading, ties, treading = [0, 1], [[0], [0, 1]], [1, 0]
        draft = Draft(threading, ties, treading)
        threading.append(7)
        ties[0].append(5)
        ties[1] = [3]
        ties.append([9])
        treading[0] = 0
        self.assertEqual(parts(draft), ([0, 1], [[0], [0, 1]], [1, 0]))
        self.assertEqual(woven(draft), ["##", "#."])

    def test_its_ties_are_no_two_one_list(self):
        tie = [0]
        draft = Draft([0, 1], [tie, tie], [0, 1])
        draft.ties[0].append(1)
        self.assertEqual(draft.ties, [[0, 1], [0]])
        self.assertEqual(tie, [0])

    def test_changing_its_lists_changes_nothing_that_was_handed_in(self):
        threading, ties, treading = [0, 1], [[0], [0, 1]], [1, 0]
        draft = Draft(threading, ties, treading)
        draft.threading.append(5)
        draft.ties[0].append(5)
        draft.ties.append([])
        draft.treading.append(5)
        self.assertEqual((threading, ties, treading), ([0, 1], [[0], [0, 1]], [1, 0]))

    def test_a_refusal_changes_nothing(self):
        threading, ties, treading = [0, 1], [[0], [1, 0]], [1, 0]
        self.assert_no_draft(threading, ties, treading)
        self.assertEqual((threading, ties, treading), ([0, 1], [[0], [1, 0]], [1, 0]))


class TestWoven(unittest.TestCase):
    def test_told_sign_by_sign(self):
        self.assertEqual(woven(Draft([0, 1, 2, 1, 0], [[0, 2], [1]], [0, 1, 1])), ["#.#.#", ".#.#.", ".#.#."])
        self.assertEqual(woven(Draft([3, 0], [[0], [3], [0, 3], []], [0, 1, 2, 3, 0])),
                         [".#", "#.", "##", "..", ".#"])
        self.assertEqual(woven(Draft([39], [[0, 39]], [0])), ["#"])
        self.assertEqual(woven(Draft([0], [[1, 39]], [0])), ["."])

    def test_a_plain_cloth(self):
        self.assertEqual(woven(Draft([0, 1, 2, 3], [[0, 2], [1, 3]], [0, 1, 0, 1])), ["#.#.", ".#.#"] * 2)

    def test_each_crossing_as_point_22_tells(self):
        draft = Draft([4, 0, 2, 2, 9], [[0, 2], [], [2, 4, 9], [0]], [3, 0, 0, 2, 1, 3, 2])
        cloth = woven(draft)
        self.assertEqual((len(cloth), len(cloth[0])), (7, 5))
        for pick, treadle in enumerate(draft.treading):
            for end, shaft in enumerate(draft.threading):
                self.assertEqual(cloth[pick][end] == "#", shaft in draft.ties[treadle])

    def test_the_largest(self):
        draft = Draft(list(range(40)), [[k] for k in range(40)], list(range(39, -1, -1)))
        self.assertEqual(woven(draft), ["." * (39 - k) + "#" + "." * k for k in range(40)])

    def test_a_told_cloth_is_the_askers_own(self):
        draft = Draft([0, 1], [[0], [1]], [0, 1])
        told = woven(draft)
        told[0] = "changed"
        told.append("more")
        self.assertEqual(woven(draft), ["#.", ".#"])
        self.assertEqual(parts(draft), ([0, 1], [[0], [1]], [0, 1]))


class TestLeastDraft(unittest.TestCase):
    def assert_least(self, cloth, threading, ties, treading):
        kept = list(cloth)
        draft = least_draft(cloth)
        self.assertEqual(parts(draft), (threading, ties, treading))
        self.assertEqual(woven(draft), cloth)
        self.assertEqual(cloth, kept)

    def test_worked_out_by_hand(self):
        self.assert_least(["#"], [0], [[0]], [0])
        self.assert_least(["."], [0], [[]], [0])
        self.assert_least(["#.", ".#"], [0, 1], [[0], [1]], [0, 1])
        self.assert_least([".#", "#."], [0, 1], [[1], [0]], [0, 1])
        self.assert_least(["#.#.", ".#.#", "#.#.", ".#.#"], [0, 1, 0, 1], [[0], [1]], [0, 1, 0, 1])
        self.assert_least(["##..", ".##.", "..##", "#..#"], [0, 1, 2, 3], [[0, 1], [1, 2], [2, 3], [0, 3]],
                          [0, 1, 2, 3])

    def test_shafts_and_treadles_are_counted_as_they_first_come(self):
        self.assert_least(["..#", "##.", "..#", "###"], [0, 0, 1], [[1], [0], [0, 1]], [0, 1, 0, 2])
        self.assert_least(["##.", "##.", "..#", "##."], [0, 0, 1], [[0], [1]], [0, 0, 1, 0])
        self.assert_least([".##.#", "....."], [0, 1, 1, 0, 1], [[1], []], [0, 1])

    def test_strands_that_are_all_alike(self):
        self.assert_least(["###", "###"], [0, 0, 0], [[0]], [0, 0])
        self.assert_least(["..."] * 4, [0, 0, 0], [[]], [0] * 4)
        self.assert_least(["#" * 40] * 40, [0] * 40, [[0]], [0] * 40)

    def test_the_largest(self):
        cloth = ["." * k + "#" + "." * (39 - k) for k in range(40)]
        self.assert_least(cloth, list(range(40)), [[k] for k in range(40)], list(range(40)))

    def test_it_weaves_the_cloth_by_as_few_as_can_be(self):
        for cloth in small_cloths() + some_cloths(40, 40, "least"):
            draft = least_draft(cloth)
            self.assertEqual(woven(draft), cloth)
            self.assertEqual(sorted(set(draft.threading)), list(range(len(set(zip(*cloth))))))
            self.assertEqual(sorted(set(draft.treading)), list(range(len(set(cloth)))))
            self.assertEqual(len(draft.ties), len(set(cloth)))
            for numbers in (draft.threading, draft.treading):
                firsts = [numbers.index(number) for number in range(max(numbers) + 1)]
                self.assertEqual(firsts, sorted(firsts))

    def test_it_is_a_draft(self):
        self.assertIsInstance(least_draft(["#."]), Draft)

    def test_no_cloth(self):
        for texts in NO_CLOTHS:
            with self.subTest(texts=texts[:2]):
                with self.assertRaises(NoCloth):
                    least_draft(texts)

    def test_a_told_draft_is_the_askers_own(self):
        cloth = ["#.", ".#"]
        told = least_draft(cloth)
        told.threading.append(5)
        told.ties[0].append(5)
        told.treading.append(0)
        self.assertEqual(cloth, ["#.", ".#"])
        self.assertEqual(parts(least_draft(cloth)), ([0, 1], [[0], [1]], [0, 1]))


if __name__ == "__main__":
    unittest.main()

"""The whole program: its interface, and what points 1, 5 and 113 promise of all of it."""

import copy
import importlib
import inspect
import unittest

from heddle.errors import WeaveError

# The interface as the document has it: for each file its functions and classes with their arguments.
INTERFACE = {
    "rows": {"unfolded": "text", "size_of": "text", "shown": "row"},
    "cloth": {"measured": "cloth", "back_of": "cloth", "quarter_of": "cloth", "ends_apart": "cloth one other",
              "picks_apart": "cloth one other"},
    "drafts": {"Draft": "threading ties treading", "woven": "draft", "least_draft": "cloth"},
    "notes": {"written_draft": "draft", "read_draft": "text"},
    "loom": {"Loom": "threading ties"},
    "endless": {"far_sign": "cloth x y", "overs_within": "cloth left first wide high",
                "tiled": "cloth across along"},
    "shifts": {"same_shifted": "cloth x y", "shifts_of": "cloth"},
    "floats": {"longest_float": "cloth strand"},
    "strands": {"strand_over": "cloth one other", "scores_of": "cloth"},
    "layers": {"tops_of": "cloth", "layers_of": "cloth", "layer_numbers": "cloth"},
    "ways": {"way_between": "cloth one other", "round_way": "cloth strands", "lifted_off": "cloth strands"},
    "laying": {"laid_together": "pieces ends picks", "taken_apart": "cloth"},
    "shuttles": {"seams_of": "cloth shuttles", "tubes_of": "cloth shuttles", "sheets_of": "cloth shuttles"},
    "half": {"is_cut": "half strands"},
    "finish": {"finished_cloth": "half"},
    "colours": {"picture_of": "cloth warp weft", "free_half": "picture warp weft"},
    "paint": {"first_colouring": "picture warp weft"},
    "made": {"made_draft": "picture warp weft"},
    "blocks": {"filled_blocks": "profile one other", "block_draft": "profile one other",
               "profile_of": "cloth one other"},
    "reader": {"read_pattern": "text known"},
    "book": {"read_book": "text"},
    "desk": {"answers_to": "paper"},
}

METHODS = {
    "Loom": {"press": "treadle", "lift": "treadle", "throw": "colour", "undo": "", "unthrow": "", "deeds_done": "",
             "treadles_down": "", "shed": "", "cloth": "", "colours": "", "draft": ""},
    "Piece": {"wide": "", "high": "", "sign": "x y", "cloth": "", "told": ""},
}

CLOTH = ["#...", "#.##", "..#.", "###."]
PLAIN = ["#.", ".#"]
BOOK = "a = twill(1,2)\nb = mirror(a)\nc: 0-1 / 0, 1 / 0-1"

# For each function things that it answers.
ASKED = {
    "rows.unfolded": [("0-3 2*(1)",)], "rows.size_of": [("0-3 2*(1)",)], "rows.shown": [([0, 1, 2, 5],)],
    "cloth.measured": [(CLOTH,)], "cloth.back_of": [(CLOTH,), (PLAIN,)], "cloth.quarter_of": [(CLOTH,)],
    "cloth.ends_apart": [(CLOTH, 0, 1)], "cloth.picks_apart": [(CLOTH, 0, 1)],
    "drafts.least_draft": [(CLOTH,), (["##", "##"],)], "notes.read_draft": [("0-1 / 0, 1, , 1 / 0-1",)],
    "endless.far_sign": [(CLOTH, -7, 9)], "endless.overs_within": [(CLOTH, -7, 9, 30, 30)],
    "endless.tiled": [(CLOTH, 1, 1), (CLOTH, 2, 3)], "shifts.same_shifted": [(CLOTH, 2, 2)],
    "shifts.shifts_of": [(CLOTH,)], "floats.longest_float": [(CLOTH, 3), (["##"], 2)],
    "strands.strand_over": [(CLOTH, 0, 4)], "strands.scores_of": [(CLOTH,)],
    "layers.tops_of": [(CLOTH,)], "layers.layers_of": [(CLOTH,), (["##", ".."],)],
    "layers.layer_numbers": [(CLOTH,)], "ways.way_between": [(CLOTH, 0, 6), (CLOTH, 0, 0)],
    "ways.round_way": [(CLOTH, [0, 2, 4, 6]), (CLOTH, [3])], "ways.lifted_off": [(CLOTH, [0, 1, 2, 3, 4])],
    "laying.laid_together": [([PLAIN, PLAIN], [0, 1, 0, 1], [0, 1, 0, 1]), ([PLAIN], [0, 0], [0, 0])],
    "laying.taken_apart": [(CLOTH,), (["##", "##"],)],
    "shuttles.seams_of": [(CLOTH, [0, 0, 0, 0])], "shuttles.tubes_of": [(CLOTH, [0, 0, 0, 0])],
    "shuttles.sheets_of": [(CLOTH, [0, 0, 0, 0]), (CLOTH, [0, 1, 2, 3])],
    "half.is_cut": [(["#?", "#?"], [0])], "finish.finished_cloth": [(["??", "??"],), (["#?", "#?"],), (PLAIN,)],
    "colours.picture_of": [(CLOTH, "abcd", "efab")], "colours.free_half": [(["ab", "bb"], "ab", "bb")],
    "paint.first_colouring": [(["ab", "ba"], "??", "??"), (["abc", "bca", "cab"], "???", "???")],
    "made.made_draft": [(["ab", "ba"], "??", "??"), (["bb", "bb"], "??", "??"), (["a" * 2, "b" * 2], "cc", "dd")],
    "blocks.filled_blocks": [(PLAIN, ["##", ".."], ["#.", "#."]), (["#"], PLAIN, PLAIN)],
    "blocks.block_draft": [(PLAIN, ["##", ".."], ["#.", "#."])],
    "blocks.profile_of": [(CLOTH, ["#"], ["."]), (CLOTH, PLAIN, PLAIN)],
    "reader.read_pattern": [("beside(a,mirror(a))", [("a", CLOTH)]), ("a", [("a", CLOTH)])],
    "book.read_book": [(BOOK,)],
    "desk.answers_to": [(BOOK + "\n? cloth a\n? cloth a\n? layers b\n? layers a\n? floats b\n? finish ?? ??"
                         "\n? paint ?? ?? ab ba\n? sheets a 0 0 1\n? draft a\n? cloth x",)],
}

# For each refusal things that bring it forth.
REFUSED = {
    "NoRow": ("rows.unfolded", ("x",)), "TooLarge": ("rows.unfolded", ("99*(99*(0))",)),
    "NoCloth": ("cloth.measured", ([],)), "NoDraft": ("notes.read_draft", ("0",)),
    "NoStrand": ("floats.longest_float", (CLOTH, 8)), "NoLaying": ("laying.laid_together", ([], [0], [0])),
    "NoShuttle": ("shuttles.seams_of", (CLOTH, [])), "NoColour": ("paint.first_colouring", (["a"], "x", "?")),
    "NoBlock": ("blocks.filled_blocks", (PLAIN, PLAIN, ["#"])), "NoPattern": ("reader.read_pattern", ("", [])),
    "Unknown": ("book.read_book", ("a = b",)), "Twice": ("desk.answers_to", ("a = rows(#)\na = a",)),
}


def found(path):
    file, name = path.split(".")
    return getattr(importlib.import_module("heddle." + file), name)


def plain(answer):
    """An answer with its objects told as lists of what they hold."""
    if isinstance(answer, (list, tuple)):
        return answer.__class__(plain(part) for part in answer)
    if hasattr(answer, "ties"):
        return [answer.threading, answer.ties, answer.treading]
    if hasattr(answer, "told"):
        return [answer.told(), answer.cloth()]
    return answer


def lists_of(answer):
    """All lists within an answer."""
    if hasattr(answer, "ties"):
        answer = (answer.threading, answer.ties, answer.treading)
    lists = [answer] if isinstance(answer, list) else []
    for part in answer if isinstance(answer, (list, tuple)) else ():
        lists.extend(lists_of(part))
    return lists


class TestInterface(unittest.TestCase):
    def assert_arguments(self, thing, arguments):
        given = list(inspect.signature(thing).parameters)
        self.assertEqual([name for name in given if name != "self"], arguments.split())

    def test_functions_and_classes(self):
        for file, things in INTERFACE.items():
            for name, arguments in things.items():
                with self.subTest(file=file, name=name):
                    self.assert_arguments(found(f"{file}.{name}"), arguments)

    def test_methods(self):
        for path in ("loom.Loom", "pieces.Piece"):
            for name, arguments in METHODS[path.split(".")[1]].items():
                with self.subTest(name=name):
                    self.assert_arguments(getattr(found(path), name), arguments)

    def test_each_function_is_asked_below(self):
        names = {f"{file}.{name}" for file, things in INTERFACE.items() for name in things}
        self.assertEqual(names - set(ASKED), {"drafts.Draft", "drafts.woven", "notes.written_draft", "loom.Loom"})


class TestPointOne(unittest.TestCase):
    def test_what_is_handed_in_stays(self):
        for path, asked in ASKED.items():
            for things in asked:
                kept = copy.deepcopy(things)
                found(path)(*things)
                self.assertEqual(things, kept, path)

    def test_the_same_question_has_the_same_answer(self):
        for path, asked in ASKED.items():
            for things in asked:
                answers = [plain(found(path)(*copy.deepcopy(things))) for _ in range(3)]
                self.assertEqual(answers[0], answers[1], path)
                self.assertEqual(answers[0], answers[2], path)

    def test_no_two_lists_are_one(self):
        for path, asked in ASKED.items():
            for things in asked:
                lists = lists_of(found(path)(*things)) + lists_of(found(path)(*things))
                # The same list may be handed in twice, and is none of the told ones.
                handed = {id(part): part for part in lists_of(things)}
                self.assertEqual(len({id(part) for part in lists}), len(lists), path)
                self.assertEqual({id(part) for part in lists} & set(handed), set(), path)

    def test_changing_what_is_told_changes_nothing(self):
        for path, asked in ASKED.items():
            for things in asked:
                things = copy.deepcopy(things)
                kept = copy.deepcopy(things)
                first = plain(found(path)(*things))
                for part in lists_of(found(path)(*things)):
                    part.append(99)
                self.assertEqual(things, kept, path)
                self.assertEqual(plain(found(path)(*things)), first, path)

    def test_changing_what_was_handed_in_does_not_change_what_was_told(self):
        for path, asked in ASKED.items():
            for things in asked:
                things = copy.deepcopy(things)
                answer = found(path)(*things)
                first = copy.deepcopy(plain(answer))
                for part in lists_of(things):
                    part.clear()
                self.assertEqual(plain(answer), first, path)


class TestRefusals(unittest.TestCase):
    def test_each_is_raised_by_the_program_and_tells_its_name(self):
        for name, (path, things) in REFUSED.items():
            with self.assertRaises(WeaveError) as taken:
                found(path)(*things)
            self.assertEqual(taken.exception.called(), name)
            self.assertEqual(taken.exception.__class__.__name__, name)

    def test_no_deed(self):
        loom = found("loom.Loom")([0], [[0]])
        with self.assertRaises(WeaveError) as taken:
            loom.undo()
        self.assertEqual(taken.exception.called(), "NoDeed")
        self.assertEqual(len(REFUSED) + 1, 13)

    def test_the_desk_tells_the_names_of_refusals(self):
        paper = ("a = rows(#.,.#)\n? sheets a 00\n? sheets a 99*(99*(0))\n? finish #\n? sheets a 9 9\n? paint a a\n? x"
                 "\n? cloth x")
        self.assertEqual(found("desk.answers_to")(paper), [("refused", name) for name in (
            "NoRow", "TooLarge", "NoCloth", "NoShuttle", "NoColour", "NoPattern", "Unknown")])


if __name__ == "__main__":
    unittest.main()

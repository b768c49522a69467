"""Promise 11: label, and that all the other calls follow it."""

import unittest

from helper import ask, ask_last, page_of, rules_with

NO_IDS = ("b", "", "A", "topp", "to", "top ", " top", "top\n", "\xff", [200], [0, 1], "label", "top" * 1000)
NO_SAYINGS = (" ", "  ", " A", "A ", "A  B", "A B  C", "A\n", "\nA", "A\tB", '"A"', 'A"', "A-B", "A.", "A:B", "?", "_",
              "\xe4", "\xff", "\0", [0], [128, 129], "a" * 21, "a " * 10 + "a", "a" * 4000, " " * 20, "A\xa0B")
SAYINGS = ("a", "Z", "0", "9", "A b C", "a" * 20, "a " * 9 + "ab", "label", "hidden", "x 1", "0 0", "More things")
PAGE = page_of('  part a label "A"', '  part b "Own"', '  p c "C" label "Lc"', '  check d "D" off on')


def told(lines, *calls):
    """What the calls answer on a page of these lines."""
    return ask(("page", page_of(*lines)), *calls)[1:]


class Refused(unittest.TestCase):
    def test_no_box(self):
        for ident in NO_IDS:
            for saying in ("A", ""):
                self.assertEqual(ask_last(("label", ident, saying)), -3)

    def test_no_saying(self):
        for saying in NO_SAYINGS:
            self.assertEqual(ask_last(("label", "top", saying)), -1, saying)

    def test_no_box_is_told_ahead_of_no_saying(self):
        for ident in NO_IDS:
            for saying in NO_SAYINGS:
                self.assertEqual(ask_last(("label", ident, saying)), -3)

    def test_every_byte_alone_and_in_a_word(self):
        allowed = b"abcdefghijklmnopqrstuvwxyzABCDEFGHIJKLMNOPQRSTUVWXYZ0123456789"
        for byte in range(256):
            alone = "" if byte in allowed else -1
            within = "" if byte in allowed or byte == 32 else -1
            then = chr(byte) if byte in allowed else ""
            self.assertEqual(ask(("label", "top", [byte]), ("label", "top", "")), [alone, then])
            self.assertEqual(ask_last(("label", "top", [65, byte, 66])), within, byte)

    def test_the_label_stays_as_it_was(self):
        for saying in NO_SAYINGS:
            self.assertEqual(
                ask(("page", PAGE), ("label", "a", saying), ("said", "a"), ("label", "b", saying), ("said", "b"),
                    ("label", "a", "N"), ("label", "a", saying), ("said", "a"), ("label", "a", "")),
                [5, -1, 'part "A"', -1, 'part text "Own"', "A", -1, 'part "N"', "N"])

    def test_the_next_call_is_read(self):
        self.assertEqual(
            ask(("label", "x", "A"), ("size",), ("label", "x", [5] * 4000), ("size",), ("label", "top", [5]), ("size",),
                ("label", "top", "A"), ("size",)),
            [-3, (1, 1, 4), -3, (1, 1, 4), -1, (1, 1, 4), "", (1, 0, 8)])


class Labelled(unittest.TestCase):
    def test_the_label_that_it_had(self):
        self.assertEqual(
            ask(("page", PAGE), ("label", "a", "B"), ("label", "a", "C d"), ("label", "a", ""), ("label", "a", ""),
                ("label", "a", "E"), ("label", "a", "E"), ("label", "b", "F"), ("label", "b", "")),
            [5, "A", "B", "C d", "", "", "E", "", "F"])

    def test_sayings(self):
        for saying in SAYINGS:
            self.assertEqual(
                told(["  part x"], ("label", "x", saying), ("name", "x"), ("said", "x"), ("label", "x", "")),
                ["", (2, saying), f'part "{saying}"', saying])

    def test_the_empty_text(self):
        self.assertEqual(told(['  link x "Own" label "L"'], ("name", "x"), ("label", "x", ""), ("name", "x"),
                              ("said", "x"), ("source", 2, "x")),
                         [(2, "L"), "L", (3, "Own"), 'link "Own"', ""])
        self.assertEqual(told(['  part x label "L"'], ("label", "x", ""), ("name", "x"), ("said", "x")),
                         ["L", (0, ""), "part"])

    def test_this_box_alone(self):
        self.assertEqual(
            ask(("page", PAGE), ("label", "b", "New"), ("row",)),
            [5, "", [("top", "page"), ("a", 'part "A"'), ("b", 'part "New" text "Own"'), ("c", 'text "C"'),
                     ("d", 'check "D" off on')]])

    def test_on_the_new_page(self):
        self.assertEqual(ask(("label", "top", "All"), ("name", "top"), ("row",), ("size",), ("label", "top", "")),
                         ["", (2, "All"), [("top", 'page "All"')], (1, 0, 10), "All"])

    def test_hidden_boxes_and_those_said_with_others(self):
        lines = ["  part x hidden", "    p y", "  h1 z", '    part w label "W"']
        self.assertEqual(told(lines, ("label", "x", "X"), ("name", "x"), ("label", "y", "Y"), ("source", 2, "y"),
                              ("label", "w", "V"), ("said", "z")),
                         ["", (2, "X"), "", "Y", "W", 'heading 1 "V"'])

    def test_a_kind_without_the_source(self):
        lines = ['  p x "Own"', "  table y", "    row z"]
        self.assertEqual(told(lines, ("label", "x", "L"), ("name", "x"), ("label", "z", "M"), ("name", "z"),
                              ("source", 2, "x"), ("source", 2, "z"), ("label", "x", "")),
                         ["", (3, "Own"), "", (0, ""), "L", "M", "L"])

    def test_rules_and_presses_leave_it(self):
        lines = ["  check x press flip:y", "  part y hidden"]
        self.assertEqual(
            told(lines, ("label", "x", "X"), ("label", "y", "Y"), ("press", "x"), ("row",),
                 ("rules", rules_with(part="q from label")), ("row",)),
            ["", "", (0, 1), [("top", "page"), ("x", 'check "X" on'), ("y", 'part "Y"')], 8,
             [("top", "page"), ("x", 'check "X" on'), ("y", 'q "Y"')]])

    def test_it_leaves_the_state_and_the_rules(self):
        lines = ["  check x press flip:y", "  part y hidden"]
        self.assertEqual(
            told(lines, ("rules", rules_with(part="q")), ("press", "x"), ("label", "x", "X"), ("label", "y", "Y"),
                 ("role", "x"), ("role", "y"), ("row",), ("press", "x")),
            [8, (0, 1), "", "", ("check", 0, 0, 2), ("q", 0, 0, 0),
             [("top", "page"), ("x", 'check "X" on'), ("y", "q")], (1, 0)])


class AnotherPage(unittest.TestCase):
    def test_a_page_taken_anew_has_the_labels_of_its_text(self):
        asked = [("row",), ("source", 2, "a"), ("source", 2, "b")]
        first = ask(("page", PAGE), *asked)
        changed = [("label", "a", "X"), ("label", "b", "Y"), ("label", "top", "Z")]
        self.assertEqual(ask(("page", PAGE), *changed, ("page", PAGE), *asked)[-4:], first)
        self.assertEqual(ask(("page", PAGE), *changed, ("page", PAGE), ("label", "a", ""), ("label", "b", ""),
                             ("label", "top", ""))[-3:], ["A", "", ""])

    def test_the_same_id_on_another_page(self):
        self.assertEqual(ask(("label", "top", "All"), ("page", "page top\n"), ("said", "top"), ("label", "top", "")),
                         ["", 1, "page", ""])

    def test_a_page_that_is_refused_leaves_it(self):
        self.assertEqual(ask(("page", PAGE), ("label", "a", "X"), ("page", PAGE[:-1]), ("said", "a")),
                         [5, "A", -1, 'part "X"'])


class Followed(unittest.TestCase):
    def test_name(self):
        lines = ['  link x "Own" hint a', '  p a "A"']
        self.assertEqual(
            told(lines, ("name", "x"), ("label", "x", "L"), ("name", "x"), ("label", "x", ""), ("name", "x")),
            [(3, "Own"), "", (2, "L"), "L", (3, "Own")])

    def test_names_of_others_through_by_hint_and_kids(self):
        lines = ["  field x by a", "  field y hint a", "  h1 z", "    part a", "  h2 w", "    h3 v", "      part u"]
        self.assertEqual(
            told(lines, ("name", "x"), ("name", "y"), ("name", "z"), ("label", "a", "L"), ("name", "x"), ("name", "y"),
                 ("name", "z"), ("label", "u", "U"), ("name", "w"), ("label", "a", ""), ("name", "x"), ("name", "z")),
            [(0, ""), (0, ""), (0, ""), "", (1, "L"), (5, "L"), (4, "L"), "", (4, "U"), "L", (0, ""), (0, "")])

    def test_hint_and_text_besides(self):
        lines = ['  field x "Own" hint a', '  link a "A"', "  list c", '    item b "B"']
        self.assertEqual(
            told(lines, ("hint", "x"), ("label", "x", "L"), ("hint", "x"), ("label", "a", "N"), ("hint", "x"),
                 ("hint", "b"), ("label", "b", "M"), ("hint", "b")),
            [("", "Own"), "", ("A", "Own"), "", ("N", "Own"), ("", ""), "", ("", "B")])

    def test_said_and_row(self):
        lines = ['  field x "Own" hint a off', '  p a "A"']
        self.assertEqual(
            told(lines, ("said", "x"), ("label", "x", "L"), ("said", "x"), ("row",), ("label", "x", ""), ("said", "x")),
            ['field "A" off text "Own"', "", 'field "L" off hint "A" text "Own"',
             [("top", "page"), ("x", 'field "L" off hint "A" text "Own"'), ("a", 'text "A"')], "L",
             'field "A" off text "Own"'])

    def test_role_stays(self):
        self.assertEqual(told(["  h2 x off"], ("label", "x", "L"), ("role", "x")), ["", ("heading", 2, 1, 0)])

    def test_find(self):
        lines = ['  part x', '  link y "L"', "  field z by x", '  part w label "L" hidden']
        self.assertEqual(
            told(lines, ("find", "L"), ("label", "x", "L"), ("find", "L"), ("label", "y", "M"), ("find", "L"),
                 ("find", "M"), ("find", ""), ("label", "x", ""), ("find", "L"), ("find", "")),
            [["y"], "", ["x", "y", "z"], "", ["x", "z"], ["y"], ["top"], "L", [], ["top", "x", "z"]])

    def test_source(self):
        lines = ["  part x by a hint a", "    part b", "  part a"]
        asked = [("source", k, "x") for k in (1, 2, 3, 4, 5)]
        self.assertEqual(
            told(lines, *asked, ("label", "a", "A"), ("label", "b", "B"), ("label", "x", "X"), *asked),
            [""] * 5 + [""] * 3 + ["A", "X", "", "B", "A"])

    def test_users(self):
        lines = ["  field x by a", "  part a"]
        self.assertEqual(
            told(lines, ("users", "a"), ("label", "a", "A"), ("users", "a"), ("label", "x", "X"), ("users", "a"),
                 ("label", "a", ""), ("users", "a")),
            [[], "", ["x"], "", ["x"], "A", []])

    def test_size(self):
        lines = ["  part x", '  part y label "Old"', "  part z hidden"]
        self.assertEqual(
            told(lines, ("size",), ("label", "x", "L"), ("size",), ("label", "y", ""), ("size",), ("label", "z", "Z"),
                 ("size",), ("label", "top", "a" * 20), ("size",), ("label", "x", "Longer now"), ("size",)),
            [(3, 2, 4 + 4 + 10), "", (3, 1, 4 + 8 + 10), "Old", (3, 2, 4 + 8 + 4), "", (3, 2, 16), "",
             (3, 1, 4 + 23 + 8 + 4), "L", (3, 1, 4 + 23 + 8 + 4 + 9)])


if __name__ == "__main__":
    unittest.main()

"""Promise 10: source."""

import unittest

from helper import KINDS, ask, ask_last, page_of, rules_with

LARGEST = 10 ** 18
NO_IDS = ("b", "", "A", "topp", "to", "top ", " top", "top\n", "\xff", [200], [0, 1], "label", "top" * 1000)
NO_SOURCES = (0, 6, 7, -1, -5, 10, 256, 2 ** 32 + 1, -(2 ** 32) + 1, 2 ** 59 + 3, LARGEST, -LARGEST, LARGEST - 1)


def sources(lines, ident="x", rules=None, before=()):
    """What each of the five gives."""
    calls = [("page", page_of(*lines))] + ([("rules", rules)] if rules else [])
    return ask(*calls, *before, *[("source", k, ident) for k in (1, 2, 3, 4, 5)])[-5:]


class Refused(unittest.TestCase):
    def test_no_box(self):
        for ident in NO_IDS:
            for k in (1, 5):
                self.assertEqual(ask_last(("source", k, ident)), -3)

    def test_no_source(self):
        for k in NO_SOURCES:
            self.assertEqual(ask_last(("source", k, "top")), -5, k)

    def test_no_box_is_told_ahead_of_no_source(self):
        for ident in NO_IDS:
            for k in NO_SOURCES:
                self.assertEqual(ask_last(("source", k, ident)), -3)

    def test_the_next_call_is_read(self):
        for k in NO_SOURCES:
            self.assertEqual(ask(("source", k, "top"), ("size",), ("source", k, "x"), ("source", 1, "top")),
                             [-5, (1, 1, 4), -3, ""])


class Given(unittest.TestCase):
    WORDS = 'x "Own" label "Label" by ya top yb hint yc'
    OTHERS = ['  p ya "By this"', '  p yb "And that"', '  p yc "Hinted"']
    ALL = ["By this And that", "Label", "Own", "Inside More", "Hinted"]

    def test_nothing(self):
        self.assertEqual(ask(*[("source", k, "top") for k in (1, 2, 3, 4, 5)]), [""] * 5)
        for kind in ("part", "h1", "p", "link", "field", "check", "image", "live", "modal"):
            self.assertEqual(sources([f"  {kind} x", "    p a", "    part b"]), [""] * 5)

    def test_at_each_kind_that_may_hold_others(self):
        kids = ['    p ka "Inside"', '    p kb "Hidden" hidden', '    p kc "More"']
        for kind in ("part", "h1", "h2", "h3", "p", "link", "button", "field", "check", "image", "live", "modal"):
            self.assertEqual(sources([f"  {kind} {self.WORDS}"] + kids + self.OTHERS), self.ALL, kind)

    def test_at_the_page(self):
        lines = ['page x "Own" label "Label" by ya hint ya', '  p ya "A"', '  p yb "B"']
        self.assertEqual(sources(lines), ["A", "Label", "Own", "A B", "A"])

    def test_in_tables_and_lists(self):
        for around, kind in ((["  list a"], "item"), (["  table a", "    row b"], "cell"),
                             (["  table a", "    row b"], "th")):
            depth = "  " * (len(around) + 1)
            kids = [depth + '  p ka "Inside"', depth + '  p kb "More"']
            self.assertEqual(sources(around + [f"{depth}{kind} {self.WORDS}"] + kids + self.OTHERS), self.ALL)
        lines = ["  list x", '    item a "A"', '    item b "B" label "C"', "  table y", "    row z", '      th c "H"',
                 '      cell d "D" label "E"']
        self.assertEqual(sources(lines), ["", "", "", "A C", ""])
        self.assertEqual(sources(lines, "y"), [""] * 5)
        self.assertEqual(sources(lines, "z"), ["", "", "", "H D", ""])
        self.assertEqual(sources(lines, "y", rules=rules_with(row="row from kids")), ["", "", "", "H D", ""])

    def test_whether_the_kind_has_it_or_not(self):
        lines = [f"  part {self.WORDS}", '    p ka "Inside"', '    p kc "More"'] + self.OTHERS
        for words in ("q", "q from hint", "q focus whole from kids", "q from by label text kids hint"):
            self.assertEqual(sources(lines, rules=rules_with(part=words)), self.ALL, words)

    def test_the_inner_names_go_by_the_rules(self):
        lines = ["  part x by a hint a", '    p b "B"', '  link a "A" label "L"', '    p c "C"']
        self.assertEqual(sources(lines), ["L", "", "", "B", "L"])
        self.assertEqual(sources(lines, rules=rules_with(link="q from kids", p="r from text")), ["C", "", "", "B", "C"])
        self.assertEqual(sources(lines, rules="".join(f"{kind} x\n" for kind in KINDS)), [""] * 5)
        self.assertEqual(sources(lines, "a", rules="".join(f"{kind} x\n" for kind in KINDS)), ["", "L", "A", "", ""])

    def test_inner_names_are_given_not_names(self):
        lines = ["  part x by a hint b", "    link d by c", "    link e hint c", '  link a by c', "  link b hint c",
                 '  p c "C"']
        self.assertEqual(sources(lines), [""] * 5)
        self.assertEqual(sources(lines, "a"), ["C", "", "", "", ""])
        self.assertEqual(sources(lines, "b"), ["", "", "", "", "C"])

    def test_the_box_itself(self):
        self.assertEqual(sources(['  part x "T" label "L" by x hint x']), ["L", "L", "T", "", "L"])
        self.assertEqual(sources(['  part x "T" by x hint x']), ["", "", "T", "", ""])
        self.assertEqual(sources(['  p x "T" label "L" by x hint x']), ["T", "L", "T", "", "T"])
        self.assertEqual(sources(["  h1 x by x hint x", '    p a "A"']), ["A", "", "", "A", "A"])

    def test_by_in_its_order(self):
        others = ['  p a "A"', "  p b", '  p c "C"']
        self.assertEqual(sources(["  image x by c b a"] + others), ["C A", "", "", "", ""])

    def test_hidden_or_not(self):
        lines = ["  part x by a b hint a hidden", '    p c "C"', '    p d "D" hidden', '  p a "A" hidden',
                 "  part e hidden", '    p b "B"']
        self.assertEqual(sources(lines), ["A B", "", "", "C", "A"])
        self.assertEqual(sources(lines, "e"), ["", "", "", "B", ""])

    def test_own_boxes_alone(self):
        lines = ["  h1 x", "    part a", '      p b "B"', "    h2 c", '      p d "D"', '  p e "E"']
        self.assertEqual(sources(lines), ["", "", "", "D", ""])

    def test_after_presses(self):
        lines = ["  part x by a hint a", '    p b "B"', '    p c "C" hidden', "  h1 a", '    p d "D"',
                 '    p e "E" hidden', "  button f press flip:b flip:c", "  button g press flip:d flip:e"]
        self.assertEqual(sources(lines), ["D", "", "", "B", "D"])
        self.assertEqual(sources(lines, before=[("press", "f")]), ["D", "", "", "C", "D"])
        self.assertEqual(sources(lines, before=[("press", "g")]), ["E", "", "", "B", "E"])

    def test_it_is_the_name_if_the_name_comes_from_there(self):
        lines = [f"  link {self.WORDS}", '    p ka "Inside"', '    p kc "More"'] + self.OTHERS
        for k, source in enumerate(("by", "label", "text", "kids", "hint"), 1):
            rules = rules_with(link="link whole from " + source)
            given = ask(("page", page_of(*lines)), ("rules", rules), ("name", "x"), ("source", k, "x"))
            self.assertEqual(given[2:], [(k, self.ALL[k - 1]), self.ALL[k - 1]])


if __name__ == "__main__":
    unittest.main()

"""Promise 4, name, and what the document says of names and inner names."""

import itertools
import unittest

from helper import ask, ask_last, page_of, rules_with

SOURCES = ("by", "label", "text", "kids", "hint")


def name(lines, ident="x", rules=None, before=()):
    calls = [("page", page_of(*lines))] + ([("rules", rules)] if rules else [])
    return ask_last(*calls, *before, ("name", ident))


class Refused(unittest.TestCase):
    def test_no_box(self):
        for ident in ("b", "", "A", "topp", "to", "top ", " top", "top\n", "\xff", [200], [0, 1], "top" * 1000):
            self.assertEqual(ask_last(("name", ident)), -3)


class Sources(unittest.TestCase):
    LINES = ['  part x "Own" label "Label" by ya hint yb', '    p kid "Inside"', '  p ya "By this"', '  p yb "Hinted"']
    NAMES = {"by": (1, "By this"), "label": (2, "Label"), "text": (3, "Own"), "kids": (4, "Inside"),
             "hint": (5, "Hinted")}

    def test_the_first_of_the_sources_in_every_order(self):
        for count in range(1, 6):
            for sources in itertools.permutations(SOURCES, count):
                rules = rules_with(part="part from " + " ".join(sources))
                self.assertEqual(name(self.LINES, rules=rules), self.NAMES[sources[0]], sources)

    def test_a_source_that_gives_nothing_is_passed_over(self):
        for sources in itertools.permutations(SOURCES):
            rules = rules_with(part="part from " + " ".join(sources))
            for missing in sources:
                words = {"text": '"Own"', "label": 'label "Label"', "by": "by ya", "hint": "hint yb"}
                kept = [words[source] for source in ("text", "label", "by", "hint") if source != missing]
                lines = [" ".join(["  part x"] + kept)] + self.LINES[1:]
                if missing == "kids":
                    lines = lines[:1] + lines[2:]
                first = sources[1] if sources[0] == missing else sources[0]
                self.assertEqual(name(lines, rules=rules), self.NAMES[first], (sources, missing))

    def test_no_sources(self):
        self.assertEqual(name(self.LINES, rules=rules_with(part="part")), (0, ""))

    def test_nothing_to_give(self):
        for kind in ("h1", "link", "field", "check", "p", "part", "image"):
            self.assertEqual(name([f"  {kind} x"]), (0, ""))

    def test_referred_boxes_that_give_nothing(self):
        lines = ["  link x by ya yb hint yc", "    p za", "    part zb", "  p ya", '  part yb "T"', "  p yc"]
        self.assertEqual(name(lines), (0, ""))
        self.assertEqual(name(lines[:-1] + ['  p yc "Last"']), (5, "Last"))

    def test_the_new_page(self):
        self.assertEqual(ask_last(("name", "top")), (0, ""))

    def test_a_box_that_is_hidden_has_its_name(self):
        self.assertEqual(name(['  link x "Own" hidden']), (3, "Own"))
        self.assertEqual(name(["  part y hidden", '    link x "Own"']), (3, "Own"))


class By(unittest.TestCase):
    def test_1_to_3_in_their_order(self):
        others = ['  p a "A"', '  p b "B"', '  p c "C"']
        for count in (1, 2, 3):
            for idents in itertools.permutations("abc", count):
                self.assertEqual(name(["  field x by " + " ".join(idents)] + others), (1, " ".join(idents).upper()))

    def test_those_that_are_nothing_leave_no_blank(self):
        self.assertEqual(name(["  field x by a b c", "  p a", '  p b "B"', "  p c"]), (1, "B"))
        self.assertEqual(name(["  field x by a b c", '  p a "A"', "  p b", '  p c "C"']), (1, "A C"))

    def test_hidden_or_not(self):
        lines = ["  field x by a b c", '  p a "A" hidden', "  part d hidden", '    p b "B"', '  p c "C"']
        self.assertEqual(name(lines), (1, "A B C"))

    def test_the_box_itself(self):
        self.assertEqual(name(['  button x "Own" by x a', '  p a "A"']), (1, "Own A"))
        self.assertEqual(name(['  button x "Own" by a x', '  p a "A"']), (1, "A Own"))
        self.assertEqual(name(['  button x "Own" label "L" by x']), (1, "L"))
        self.assertEqual(name(["  button x by x hint a", '  p a "A"']), (5, "A"))
        self.assertEqual(name(["  link x by x", '    p a "A"', '    p b "B"']), (1, "A B"))

    def test_an_inner_name_is_taken_not_a_name(self):
        self.assertEqual(name(["  field x by a", '  link a "Own" by b', '  p b "B"']), (1, "Own"))
        self.assertEqual(name(['  field x label "L" by a', "  link a by b", '  p b "B"']), (2, "L"))
        self.assertEqual(name(['  field x label "L" by a', "  link a hint b", '  p b "B"']), (2, "L"))

    def test_two_that_name_one_another(self):
        lines = ['  field a label "A" by b', '  field b label "B" by a']
        self.assertEqual((name(lines, "a"), name(lines, "b")), ((1, "B"), (1, "A")))

    def test_ahead_of_its_line_and_behind_it(self):
        self.assertEqual(name(['  p a "A"', "  field x by b a", '  p b "B"']), (1, "B A"))

    def test_around_it_and_in_it(self):
        self.assertEqual(name(['  part a label "A"', "    part x by a b", '      p b "B"']), (1, "A B"))

    def test_what_is_around_a_box_is_none_of_its_kids(self):
        self.assertEqual(name(['page top label "All"', "  field x by a", "  h1 a"]), (0, ""))
        self.assertEqual(name(['  part b label "B"', "    h1 a", "  field x by a"]), (0, ""))

    def test_by_a_box_with_boxes_in_it(self):
        lines = ["  field x by a", "  h1 a", '    p b "B"', '    p c "C" hidden', "    h2 d", '      p e "E"']
        self.assertEqual(name(lines), (1, "B E"))


class Hint(unittest.TestCase):
    def test_hidden_or_not_itself_or_another(self):
        self.assertEqual(name(["  field x hint a", '  p a "A" hidden']), (5, "A"))
        self.assertEqual(name(["  field x hint a", "  part b hidden", '    p a "A"']), (5, "A"))
        self.assertEqual(name(["  field x hint x"]), (0, ""))
        rules = rules_with(field="field from hint text")
        self.assertEqual(name(['  field x "Own" hint x'], rules=rules), (5, "Own"))

    def test_an_inner_name_is_taken_not_a_name(self):
        self.assertEqual(name(["  field x hint a", "  link a hint b", '  p b "B"']), (0, ""))
        self.assertEqual(name(["  field x hint a", '  link a "Own" by b', '  p b "B"']), (5, "Own"))


class Kids(unittest.TestCase):
    def test_in_order(self):
        self.assertEqual(name(["  h1 x", '    p a "A"', '    link b "B"', '    p c "C"']), (4, "A B C"))

    def test_those_that_are_nothing_leave_no_blank(self):
        self.assertEqual(name(["  h1 x", "    p a", '    p b "B"', "    image c", '    p d "D"', "    p e"]), (4, "B D"))

    def test_hidden_ones_give_nothing(self):
        self.assertEqual(name(["  h1 x", '    p a "A" hidden', '    p b "B"']), (4, "B"))
        self.assertEqual(name(["  h1 x", '    p a "A" hidden']), (0, ""))

    def test_only_whether_they_are_hidden_themselves_counts(self):
        self.assertEqual(name(["  part y hidden", "    h1 x", '      p a "A"']), (4, "A"))
        self.assertEqual(name(["  h1 x hidden", '    p a "A"']), (4, "A"))

    def test_of_a_hidden_box_by_which_another_is_labelled(self):
        lines = ["  field x by a", "  h1 a hidden", '    p b "B"', '    p c "C" hidden']
        self.assertEqual(name(lines), (1, "B"))

    def test_own_boxes_alone(self):
        self.assertEqual(name(["  h1 x", "    part a", '      p b "B"', '  p c "C"']), (0, ""))
        self.assertEqual(name(["  h1 x", "    h2 a", '      p b "B"', '  p c "C"']), (4, "B"))

    def test_nested_to_the_deepest(self):
        lines = ["  h1 x", "    h2 a", "      h3 b", "        link c", '          p d "D"', '          p e "E"',
                 '      p f "F"', '    p g "G"', '  p h "H"']
        self.assertEqual(name(lines), (4, "D E F G"))
        self.assertEqual(name(lines, "b"), (4, "D E"))
        lines[3] += " hidden"
        self.assertEqual(name(lines), (4, "F G"))

    def test_inner_names_are_taken_not_names(self):
        lines = ["  h1 x", "    link a by c", "    link b hint c", '    link d "D" by c', '  p c "C"']
        self.assertEqual(name(lines), (4, "D"))
        self.assertEqual(name(lines, "d"), (1, "C"))

    def test_each_kid_by_its_own_kinds_sources(self):
        lines = ["  h1 x", '    p a "A" label "No"', '    part b "No" label "B"', '    image c "No" label "C"',
                 '    field d "No" label "D"']
        self.assertEqual(name(lines), (4, "A B C D"))
        rules = rules_with(part="part from text label", p="text from kids label text", image="image")
        self.assertEqual(name(lines, rules=rules), (4, "No No D"))

    def test_inner_names_follow_the_order_of_sources(self):
        lines = ["  field x by a", '  link a "Own" label "Label"', '    p b "Kid"']
        for sources in itertools.permutations(("label", "text", "kids")):
            rules = rules_with(link="link whole from by " + " ".join(sources) + " hint")
            expected = {"label": "Label", "text": "Own", "kids": "Kid"}[sources[0]]
            self.assertEqual(name(lines, rules=rules), (1, expected))

    def test_by_and_hint_give_nothing_within(self):
        lines = ["  field x by a", '  link a "Own" by b hint b', '  p b "B"']
        for sources, expected in (("by text", (1, "Own")), ("hint text", (1, "Own")), ("by hint", (0, "")),
                                  ("hint", (0, "")), ("by hint text", (1, "Own")), ("label by kids", (0, ""))):
            self.assertEqual(name(lines, rules=rules_with(link="link from " + sources)), expected)

    def test_a_table_and_a_list(self):
        rules = rules_with(table="table from kids", row="row from kids", list="list from kids")
        lines = ["  table x", "    row a", '      th b "H"', '      cell c "C"', "    row d", '      cell e "E"',
                 "  list y", '    item f "F"', '    item g "G"']
        self.assertEqual(name(lines, rules=rules), (4, "H C E"))
        self.assertEqual(name(lines, "y", rules=rules), (4, "F G"))
        self.assertEqual(name(lines), (0, ""))

    def test_the_longest(self):
        lines = ["  h1 x"] + [f'    p {sign * 6} "{sign * 20}"' for sign in "abcdefghijklmn"]
        self.assertEqual(name(lines), (4, " ".join(sign * 20 for sign in "abcdefghijklmn")))


class States(unittest.TestCase):
    def test_a_press_changes_what_kids_give(self):
        lines = ["  h1 x", '    p a "A"', '    p b "B" hidden', "  button c press flip:a flip:b"]
        self.assertEqual(name(lines), (4, "A"))
        self.assertEqual(name(lines, before=[("press", "c")]), (4, "B"))
        self.assertEqual(name(lines, before=[("press", "c"), ("press", "c")]), (4, "A"))

    def test_a_name_changes_nothing(self):
        lines = ["  check x", '    p a "A"']
        self.assertEqual(ask(("page", page_of(*lines)), ("name", "x"), ("name", "x"), ("press", "x"), ("name", "x")),
                         [3, (4, "A"), (4, "A"), (0, 1), (4, "A")])


if __name__ == "__main__":
    unittest.main()

"""Promises 5, 6, 7 and 13: role, hint, said, size, and what the document says of what's said."""

import unittest

from helper import KINDS, ask, ask_last, page_of, rules_with

NO_IDS = ("b", "", "A", "topp", "to", "top ", " top", "top\n", "\xff", [200], [0, 1], "label", "top" * 1000)


def told(word, lines, ident="x", rules=None, before=()):
    calls = [("page", page_of(*lines))] + ([("rules", rules)] if rules else [])
    return ask_last(*calls, *before, (word, ident))


class Role(unittest.TestCase):
    def test_no_box(self):
        for ident in NO_IDS:
            self.assertEqual(ask_last(("role", ident)), -3)

    def test_headings(self):
        for level in (1, 2, 3):
            self.assertEqual(told("role", [f"  h{level} x"]), ("heading", level, 0, 0))
            self.assertEqual(told("role", [f"  h{level} x off"]), ("heading", level, 1, 0))
            rules = rules_with(h1="a", h2="b", h3="c", p="heading")
            self.assertEqual(told("role", [f"  h{level} x"], rules=rules), ("abc"[level - 1], level, 0, 0))
            self.assertEqual(told("role", ["  p x"], rules=rules), ("heading", 0, 0, 0))

    def test_off(self):
        self.assertEqual(told("role", ["  field x off"]), ("field", 0, 1, 0))
        self.assertEqual(told("role", ["  part y off", "    field x"]), ("field", 0, 0, 0))
        self.assertEqual(ask(("page", "page a off\n"), ("role", "a")), [1, ("page", 0, 1, 0)])

    def test_checks(self):
        self.assertEqual(told("role", ["  check x"]), ("check", 0, 0, 1))
        self.assertEqual(told("role", ["  check x on"]), ("check", 0, 0, 2))
        self.assertEqual(told("role", ["  check x off"]), ("check", 0, 1, 1))
        self.assertEqual(told("role", ["  check x off on"]), ("check", 0, 1, 2))
        self.assertEqual(told("role", ["  check x on"], before=[("press", "x")]), ("check", 0, 0, 1))
        self.assertEqual(told("role", ["  check x"], before=[("press", "x")]), ("check", 0, 0, 2))
        self.assertEqual(told("role", ["  check x on"], rules=rules_with(check="field")), ("field", 0, 0, 2))

    def test_hidden_ones_and_those_in_one_said_whole(self):
        self.assertEqual(told("role", ["  check x hidden on"]), ("check", 0, 0, 2))
        self.assertEqual(told("role", ["  h1 y", "    h2 x"]), ("heading", 2, 0, 0))

    def test_roles_of_1_and_8_letters(self):
        for role in ("q", "abcdefgh"):
            self.assertEqual(told("role", ["  p x"], rules=rules_with(p=role)), (role, 0, 0, 0))


class Hint(unittest.TestCase):
    def test_no_box(self):
        for ident in NO_IDS:
            self.assertEqual(ask_last(("hint", ident)), -3)

    def test_nothing(self):
        self.assertEqual(ask_last(("hint", "top")), ("", ""))
        self.assertEqual(told("hint", ['  link x "Own"']), ("", ""))

    def test_the_hint_that_is_said(self):
        self.assertEqual(told("hint", ['  link x "Own" hint a', '  p a "A"']), ("A", ""))
        self.assertEqual(told("hint", ['  part x hint a', '  p a "A" hidden']), ("A", ""))
        self.assertEqual(told("hint", ['  p x hint a', "  part b hidden", '    p a "A"']), ("A", ""))
        self.assertEqual(told("hint", ['  p x hint a', "  p a"]), ("", ""))

    def test_a_hint_that_is_the_name_is_not_said(self):
        self.assertEqual(told("hint", ["  link x hint a", '  p a "A"']), ("", ""))
        self.assertEqual(told("hint", ['  field x "Own" hint a', '  p a "A"']), ("", "Own"))
        self.assertEqual(told("hint", ['  field x "Own" label "L" hint a', '  p a "A"']), ("A", "Own"))

    def test_it_is_the_source_that_counts_not_the_name(self):
        self.assertEqual(told("hint", ["  field x by a hint a", '  p a "A"']), ("A", ""))
        self.assertEqual(told("hint", ['  field x label "A" hint a', '  p a "A"']), ("A", ""))

    def test_its_inner_name_is_said(self):
        lines = ["  part x hint a", '  link a by b hint b', '    p c "C"', '    p d "D" hidden', '  p b "B"']
        self.assertEqual(told("hint", lines), ("C", ""))
        self.assertEqual(told("hint", ['  p x "T" hint x']), ("T", ""))

    def test_the_text_besides(self):
        self.assertEqual(told("hint", ['  part x "Own"']), ("", "Own"))
        self.assertEqual(told("hint", ['  field x "Own" label "L"']), ("", "Own"))
        self.assertEqual(told("hint", ['  p x "Own"']), ("", ""))
        self.assertEqual(told("hint", ['  part x "Own" label "L"']), ("", "Own"))
        self.assertEqual(told("hint", ["  list y", '    item x "Own" label "L"']), ("", "Own"))
        self.assertEqual(told("hint", ["  list y", '    item x "Own"']), ("", ""))

    def test_no_text_besides_of_what_is_said_whole(self):
        for kind in ("h1", "h2", "h3", "link", "button", "check", "image"):
            self.assertEqual(told("hint", [f'  {kind} x "Own" label "L"']), ("", ""))
        self.assertEqual(told("hint", ['  link x "Own" label "L"'], rules=rules_with(link="link from label")), ("", "Own"))
        self.assertEqual(told("hint", ['  part x "Own" label "L"'], rules=rules_with(part="part whole")), ("", ""))
        self.assertEqual(told("hint", ['  part x "Own" label "L"'], rules=rules_with(part="part focus")), ("", "Own"))

    def test_the_same_text_from_another_source(self):
        self.assertEqual(told("hint", ['  part x "Own" label "Own"']), ("", "Own"))

    def test_a_box_in_one_said_whole_has_its_text_besides(self):
        self.assertEqual(told("hint", ["  h1 y", '    part x "Own"']), ("", "Own"))

    def test_hidden_boxes_too(self):
        self.assertEqual(told("hint", ['  part x "Own" hint a hidden', '  p a "A"']), ("A", "Own"))

    def test_after_a_press(self):
        lines = ["  part x hint a", "  h1 a", '    p b "B"', '    p c "C" hidden', "  button d press flip:b flip:c"]
        self.assertEqual(told("hint", lines), ("B", ""))
        self.assertEqual(told("hint", lines, before=[("press", "d")]), ("C", ""))


class Said(unittest.TestCase):
    def test_no_box(self):
        for ident in NO_IDS:
            self.assertEqual(ask_last(("said", ident)), -3)

    def test_not_said_by_itself(self):
        for lines in (["  p x hidden"], ["  part y hidden", "    p x"], ["  h1 y", "    p x"], ["  link y", "    h1 x"],
                      ["  h1 y", "    part z", "      p x"], ["  part y", "    link z", "      part w", "        p x"],
                      ["  button x hidden"], ["  part y hidden", "    part z", "      part w", "        p x"]):
            self.assertEqual(told("said", lines), -6, lines)

    def test_said_by_itself_all_the_same(self):
        for lines, said in ((["  h1 y", '  p x "T"'], 'text "T"'), (["  h1 x", '    p y "T"'], 'heading 1 "T"'),
                            (["  part y off", "    p x"], "text"), (["  p y hidden", "  p x"], "text"),
                            (["  h1 y", "    p z", "  p x"], "text"), (["  part x", "    p y hidden"], "part")):
            self.assertEqual(told("said", lines), said)

    def test_whole_by_the_rules(self):
        lines = ["  part y", "    h1 z", "      p x"]
        self.assertEqual(told("said", lines, rules=rules_with(h1="heading")), "text")
        self.assertEqual(told("said", lines, rules=rules_with(h1="heading", part="part whole")), -6)
        self.assertEqual(told("said", lines, rules=rules_with(h1="heading", page="page whole")), -6)
        self.assertEqual(told("said", lines, "top", rules=rules_with(page="page whole")), "page")

    def test_its_words(self):
        for lines, said in (
                (["  part x"], "part"),
                (['  part x label "L"'], 'part "L"'),
                (["  h1 x"], "heading 1"),
                (['  h2 x "Two"'], 'heading 2 "Two"'),
                (['  h3 x "Three" off'], 'heading 3 "Three" off'),
                (["  check x"], "check not on"),
                (["  check x on"], "check on"),
                (['  check x "C" off'], 'check "C" off not on'),
                (['  check x "C" off on'], 'check "C" off on'),
                (['  field x "T" label "L" hint a off', '  p a "A"'], 'field "L" off hint "A" text "T"'),
                (['  field x "T" hint a off', '  p a "A"'], 'field "A" off text "T"'),
                (['  check x "T" label "L" hint a off on', '  p a "A"'], 'check "L" off on hint "A"'),
                (['  part x "T"'], 'part text "T"'),
                (['  part x hint a', '  p a "A"'], 'part hint "A"'),
                (['  part x "T" hint a', '  p a "A"'], 'part hint "A" text "T"'),
                (['  link x "Go" order 3 press flip:x'], 'link "Go"')):
            self.assertEqual(told("said", lines), said)

    def test_everything_at_once(self):
        rules = rules_with(h2="abcdefgh from by", check="q from kids by")
        lines = ['  h2 x "T" label "L" by a x b hint c off order 9', '  p a "A"', '  p b "B"', '  p c "C"',
                 '  check y "U" label "M" by a hint b off on', '    part d label "D"']
        self.assertEqual(told("said", lines, rules=rules), 'abcdefgh 2 "A B" off hint "C" text "T"')
        self.assertEqual(told("said", lines, "y", rules=rules), 'q "D" off on hint "B" text "U"')

    def test_levels_go_by_the_kind(self):
        self.assertEqual(told("said", ["  p x"], rules=rules_with(p="heading")), "heading")
        self.assertEqual(told("said", ["  h3 x"], rules=rules_with(h3="text")), "text 3")

    def test_presses(self):
        lines = ['  check x "C" press flip:y', '  p y "Y" hidden']
        self.assertEqual(told("said", lines), 'check "C" not on')
        self.assertEqual(told("said", lines, before=[("press", "x")]), 'check "C" on')
        self.assertEqual(told("said", lines, before=[("press", "x"), ("press", "x")]), 'check "C" not on')
        self.assertEqual(told("said", lines, "y"), -6)
        self.assertEqual(told("said", lines, "y", before=[("press", "x")]), 'text "Y"')

    def test_the_new_page(self):
        self.assertEqual(ask_last(("said", "top")), "page")

    def test_the_page_itself(self):
        self.assertEqual(ask(("page", 'page a "T" label "L" hint b off\n  p b "B"\n'), ("said", "a")),
                         [2, 'page "L" off hint "B" text "T"'])


class Size(unittest.TestCase):
    def size(self, lines, rules=None, before=()):
        calls = [("page", page_of(*lines))] + ([("rules", rules)] if rules else [])
        return ask_last(*calls, *before, ("size",))

    def test_the_new_page(self):
        self.assertEqual(ask(("size",)), [(1, 1, 4)])

    def test_names_and_bytes(self):
        self.assertEqual(self.size(['  p a "A"', "  p b", '  part c "T"']),
                         (4, 3, len('page') + len('text "A"') + len("text") + len('part text "T"')))
        self.assertEqual(self.size(['page top label "All"', '  p a "A"']), (2, 0, len('page "All"') + len('text "A"')))

    def test_hidden_ones_are_left_out(self):
        self.assertEqual(self.size(['  p a "A" hidden', "  part b hidden", '    p c "C"', '  p d "D"']), (2, 1, 4 + 8))

    def test_those_in_one_said_whole_are_left_out(self):
        self.assertEqual(self.size(["  h1 a", '    p b "B"', "    part c", '      p d "D"', "  link e"]),
                         (3, 2, 4 + len('heading 1 "B"') + 4))

    def test_rules(self):
        lines = ['  part a label "A"', '    p b "B"', "  p c"]
        self.assertEqual(self.size(lines), (4, 2, 4 + 8 + 8 + 4))
        self.assertEqual(self.size(lines, rules_with(part="part whole from label")), (3, 2, 4 + 8 + 4))
        self.assertEqual(self.size(lines, rules_with(page="q whole")), (1, 1, 1))
        self.assertEqual(self.size(lines, "".join(f"{kind} x\n" for kind in KINDS)), (4, 4, 3 + len('x text "B"')))

    def test_it_is_all_that_is_said(self):
        lines = ['  h1 a "A"', '  field b "F" label "L" hint a off', "  check c on", '    p d "D"',
                 "  button e press hide:a", "  part f hidden", "    p g", "  list h", '    item i "I" label "J"']
        asked = [("said", ident) for ident in ("top", "a", "b", "c", "d", "e", "f", "g", "h", "i")]
        for before in ([], [("press", "c")], [("press", "e")], [("press", "e"), ("press", "c")]):
            given = ask(("page", page_of(*lines)), *before, *asked, ("size",))
            said = [text for text in given[1 + len(before):-1] if text != -6]
            self.assertEqual(given[-1], (len(said), 3, sum(len(text) for text in said)))

    def test_after_presses(self):
        lines = ["  button a press flip:top", "  check b"]
        self.assertEqual(self.size(lines), (3, 3, 4 + 6 + len("check not on")))
        self.assertEqual(self.size(lines, before=[("press", "b")]), (3, 3, 4 + 6 + len("check on")))
        self.assertEqual(self.size(lines, before=[("press", "a")]), (0, 0, 0))

    def test_16_boxes(self):
        lines = [f'  part {sign * 6} "{sign * 20}" label "{sign.upper() * 20}"' for sign in "abcdefghijklmno"]
        self.assertEqual(self.size(lines), (16, 1, 4 + 15 * (4 + 1 + 22 + 1 + 4 + 1 + 22)))


if __name__ == "__main__":
    unittest.main()

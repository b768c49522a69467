"""Promise 12: users."""

import unittest

from helper import KINDS, ask, ask_last, page_of, rules_with

NO_IDS = ("b", "", "A", "topp", "to", "top ", " top", "top\n", "\xff", [200], [0, 1], "by", "top" * 1000)


def users(lines, ident="a", rules=None, before=()):
    calls = [("page", page_of(*lines))] + ([("rules", rules)] if rules else [])
    return ask_last(*calls, *before, ("users", ident))


class Users(unittest.TestCase):
    def test_no_box(self):
        for ident in NO_IDS:
            self.assertEqual(ask_last(("users", ident)), -3)

    def test_a_box_that_labels_none(self):
        self.assertEqual(ask_last(("users", "top")), [])
        lines = ['  p a "A"', '  p b "B"', "  field c by b hint a", "  button d press show:a"]
        self.assertEqual(users(lines), [])
        self.assertEqual(users(lines, "c"), [])
        self.assertEqual(users(lines, "top"), [])

    def test_several_in_the_pages_order(self):
        lines = ["  field z by a", "  part y by b a", '  p a "A"', "    h1 x by c b a", "  image b by a", "  p c",
                 "  link w by c"]
        self.assertEqual(users(lines), ["z", "y", "x", "b"])

    def test_an_id_within_another(self):
        lines = ['  p a "A"', '  p aa "B"', '  p ab "C"', "  field x by aa", "  field y by ab", "  field z by a"]
        self.assertEqual(users(lines), ["z"])
        self.assertEqual(users(lines, "aa"), ["x"])

    def test_names_that_come_from_elsewhere(self):
        lines = ['  p a "A"', '  p b "Own" by a', "  field c by a", "  table d by a", "    row e by a",
                 '      th f "F" label "L" by a', '      cell g "G" by a', "      th h by a"]
        self.assertEqual(users(lines), ["c", "d"])

    def test_by_the_order_of_the_sources(self):
        lines = ['  p a "A"', '  link x "Own" label "L" by a hint a', '    p b "B"']
        for words, found in (("q from by label text kids hint", ["x"]), ("q from label by", []), ("q from text by", []),
                             ("q from kids by", []), ("q from hint by", []), ("q from by", ["x"]), ("q from hint", []),
                             ("q", [])):
            self.assertEqual(users(lines, rules=rules_with(link=words)), found, words)

    def test_by_behind_a_source_that_gives_nothing(self):
        lines = ['  p a "A"', '  link x by a']
        self.assertEqual(users(lines, rules=rules_with(link="q from label text kids hint by")), ["x"])

    def test_a_box_that_gives_nothing_itself(self):
        lines = ["  p a", '  p b "B"', "  field x by a b", '  field y label "Y" by a', "  field z by a"]
        self.assertEqual(users(lines), ["x"])
        self.assertEqual(users(lines, "b"), ["x"])

    def test_the_box_itself(self):
        self.assertEqual(users(['  button a "A" by a']), ["a"])
        self.assertEqual(users(["  button a by a"]), [])
        self.assertEqual(users(['  button a "A" by a b', '  p b "B" by a']), ["a"])

    def test_two_that_name_one_another(self):
        lines = ['  field a label "A" by b', '  field b label "B" by a']
        self.assertEqual((users(lines, "a"), users(lines, "b")), (["b"], ["a"]))

    def test_the_page(self):
        lines = ['page top label "All" by a', '  part a label "A" by top']
        self.assertEqual((users(lines, "top"), users(lines, "a")), (["a"], ["top"]))

    def test_hidden_or_not(self):
        lines = ['  p a "A" hidden', "  field x by a hidden", "  part y hidden", "    field z by a", "  h1 v",
                 "    field w by a"]
        self.assertEqual(users(lines), ["x", "z", "w"])

    def test_after_rules(self):
        lines = ['  h1 a', '    p b "B"', "  field x by a"]
        self.assertEqual(users(lines), ["x"])
        self.assertEqual(users(lines, rules=rules_with(h1="q from label text")), [])
        self.assertEqual(users(lines, rules=rules_with(field="q from label")), [])
        self.assertEqual(users(lines, rules="".join(f"{kind} x from by\n" for kind in KINDS)), [])

    def test_after_presses(self):
        lines = ["  h1 a", '    p b "B"', "  field x by a", "  button c press flip:b", "  button d press flip:x"]
        self.assertEqual(users(lines, before=[("press", "d")]), ["x"])
        self.assertEqual(users(lines, before=[("press", "c")]), [])
        self.assertEqual(users(lines, before=[("press", "c"), ("press", "c")]), ["x"])

    def test_all_16(self):
        lines = ["page top by aaaaaa"] + [f'  part {sign * 6} label "{sign}" by aaaaaa' for sign in "aonmlkjihgfedcb"]
        self.assertEqual(users(lines, "aaaaaa"), ["top"] + [sign * 6 for sign in "aonmlkjihgfedcb"])

    def test_it_changes_nothing(self):
        lines = ['  p a "A"', "  field x by a"]
        self.assertEqual(ask(("page", page_of(*lines)), ("users", "a"), ("users", "a"), ("row",)),
                         [3, ["x"], ["x"], [("top", "page"), ("a", 'text "A"'), ("x", 'field "A"')]])


if __name__ == "__main__":
    unittest.main()

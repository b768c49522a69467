"""Promises 8 and 9: row and find."""

import unittest

from helper import KINDS, ask, ask_last, page_of, rules_with


def told(call, lines, rules=None, before=()):
    calls = [("page", page_of(*lines))] + ([("rules", rules)] if rules else [])
    return ask_last(*calls, *before, call)


def row(lines, rules=None, before=()):
    return told(("row",), lines, rules, before)


def idents(lines, rules=None, before=()):
    return [ident for ident, said in row(lines, rules, before)]


def find(sought, lines, rules=None, before=()):
    return told(("find", sought), lines, rules, before)


class Row(unittest.TestCase):
    def test_the_new_page(self):
        self.assertEqual(ask(("row",)), [[("top", "page")]])

    def test_ids_and_what_is_said_in_order(self):
        lines = ['  h1 z "Z"', '  p y "Y"', "  part x", '    field b label "B" hint y off', "  check a on"]
        self.assertEqual(row(lines), [
            ("top", "page"), ("z", 'heading 1 "Z"'), ("y", 'text "Y"'), ("x", "part"),
            ("b", 'field "B" off hint "Y"'), ("a", "check on")])

    def test_hidden_boxes_and_those_in_them(self):
        lines = ["  p a hidden", "  part b hidden", "    p c", "    part d", "      p e", "  p f"]
        self.assertEqual(row(lines), [("top", "page"), ("f", "text")])

    def test_those_in_a_box_that_is_said_whole(self):
        lines = ["  link a", '    p b "B"', "    part c", '      p d "D"', "  p e"]
        self.assertEqual(row(lines), [("top", "page"), ("a", 'link "B"'), ("e", "text")])

    def test_those_in_a_hidden_one_that_would_be_said_whole(self):
        self.assertEqual(idents(["  h1 a hidden", "    p b", "  p c"]), ["top", "c"])

    def test_each_kind_that_is_said_whole(self):
        for kind in ("h1", "h2", "h3", "link", "button", "check", "image"):
            self.assertEqual(idents([f"  {kind} a", "    p b", "  p c"]), ["top", "a", "c"], kind)
        for kind in ("part", "p", "field", "live", "modal"):
            self.assertEqual(idents([f"  {kind} a", "    p b", "  p c"]), ["top", "a", "b", "c"], kind)

    def test_a_table_and_a_list(self):
        lines = ["  table a", "    row b", '      th c "C"', "        p d", '      cell e "E"', "        p f",
                 "  list g", '    item h "H"']
        self.assertEqual(row(lines), [
            ("top", "page"), ("a", "table"), ("b", "row"), ("c", 'head "C"'), ("e", 'cell "E"'), ("f", "text"),
            ("g", "list"), ("h", 'item "H"')])

    def test_after_rules(self):
        lines = ['  part a label "A"', '    p b "B"', "  h1 c", '    p d "D"']
        self.assertEqual(idents(lines), ["top", "a", "b", "c"])
        self.assertEqual(row(lines, rules_with(part="q whole", h1="r from kids")),
                         [("top", "page"), ("a", "q"), ("c", 'r 1 "D"'), ("d", 'text "D"')])
        self.assertEqual(row(lines, rules_with(page="x whole")), [("top", "x")])
        self.assertEqual(idents(lines, "".join(f"{kind} x\n" for kind in KINDS)), ["top", "a", "b", "c", "d"])

    def test_after_presses(self):
        lines = ["  button a press flip:b flip:d", "  part b", '    p c "C"', "  part d hidden", '    p e "E"',
                 '  check f "F"']
        first = [("top", "page"), ("a", "button"), ("b", "part"), ("c", 'text "C"'), ("f", 'check "F" not on')]
        then = [("top", "page"), ("a", "button"), ("d", "part"), ("e", 'text "E"'), ("f", 'check "F" on')]
        self.assertEqual(row(lines), first)
        self.assertEqual(row(lines, before=[("press", "a"), ("press", "f")]), then)
        self.assertEqual(row(lines, before=[("press", "a"), ("press", "f"), ("press", "a"), ("press", "f")]), first)

    def test_empty_when_the_page_itself_is_hidden(self):
        lines = ["  button a press hide:top", "  p b"]
        self.assertEqual(ask(("page", page_of(*lines)), ("press", "a"), ("row",)), [3, (1, 0), []])

    def test_a_modal_leaves_it_as_it_is(self):
        self.assertEqual(idents(["  p a", "  modal b", "    p c", "  p d"]), ["top", "a", "b", "c", "d"])

    def test_another_page(self):
        self.assertEqual(ask(("page", page_of("  p a", "  p b")), ("page", "page z\n"), ("row",)),
                         [3, 1, [("z", "page")]])

    def test_16_boxes_with_the_longest_ids(self):
        lines = [f'  part {sign * 6} "{sign * 20}" label "{sign.upper() * 20}"' for sign in "onmlkjihgfedcba"]
        self.assertEqual(row(lines), [("top", "page")] + [
            (sign * 6, f'part "{sign.upper() * 20}" text "{sign * 20}"') for sign in "onmlkjihgfedcba"])

    def test_it_is_what_said_name_and_size_tell(self):
        lines = ['  h1 a "A"', '  field b "F" label "L" hint a off', "  check c on", '    p d "D"',
                 "  button e press hide:a", "  part f hidden", "    p g", "  list h", '    item i "A" label "J"']
        places = ["top", "a", "b", "c", "d", "e", "f", "g", "h", "i"]
        for before in ([], [("press", "c")], [("press", "e")], [("label", "i", ""), ("label", "e", "D")]):
            asked = [("said", ident) for ident in places] + [("name", ident) for ident in places]
            given = ask(("page", page_of(*lines)), *before, *asked, ("row",), ("size",))[1 + len(before):]
            said = [(ident, text) for ident, text in zip(places, given[:10]) if text != -6]
            self.assertEqual(given[-2], said)
            names = dict(zip(places, [text for number, text in given[10:20]]))
            unnamed = [ident for ident, text in said if names[ident] == ""]
            self.assertEqual(given[-1], (len(said), len(unnamed), sum(len(text) for ident, text in said)))
            for sought in set(names.values()):
                found = [ident for ident, text in said if names[ident] == sought]
                self.assertEqual(find(sought, lines, before=before), found)


class Find(unittest.TestCase):
    def test_the_new_page(self):
        self.assertEqual(ask(("find", ""), ("find", "top"), ("find", "page")), [["top"], [], []])

    def test_several_in_order(self):
        lines = ['  p z "Same"', '  part b label "Same"', '    h1 y "Same"', "  link a", '    p c "Same"',
                 '  p d "Other"', "  field x by d z", '  field e by z']
        self.assertEqual(find("Same", lines), ["z", "b", "y", "a", "e"])
        self.assertEqual(find("Other", lines), ["d"])
        self.assertEqual(find("Other Same", lines), ["x"])

    def test_a_name_that_nothing_has(self):
        lines = ['  p a "Name"', '  part b "Own"', '  field c label "L" hint a']
        for sought in ("Own", "text", "a", "top", "Nam", "Names", "ame", "name", "NAME", " Name", "Name ", '"Name"',
                       "Name\n", "\nName", "Name\0", "?", "\xff", [0], [200, 201], "Name" * 1000, "Name Name", "*"):
            self.assertEqual(find(sought, lines), [], sought)

    def test_the_empty_name(self):
        lines = ["  p a", '  p b "B"', '  part c "Own"', "  h1 d", "    p e", "  p f hidden", '  image g label "G"']
        self.assertEqual(find("", lines), ["top", "a", "c", "d"])
        self.assertEqual(find("", ['page x label "X"', '  p b "B"']), [])

    def test_each_source(self):
        lines = ['  field a by e', '  field b label "E"', '  link c "E"', "  link d", '    p e "E"', "  link f hint e"]
        self.assertEqual(find("E", lines), ["a", "b", "c", "d", "f"])

    def test_great_and_small_letters_and_blanks(self):
        lines = ['  p a "Ab"', '  p b "AB"', '  p c "ab"', '  p d "A b"', '  p e "1"']
        for sought, found in (("Ab", ["a"]), ("AB", ["b"]), ("ab", ["c"]), ("A b", ["d"]), ("1", ["e"]), ("A  b", [])):
            self.assertEqual(find(sought, lines), found)

    def test_hidden_boxes_and_those_in_them(self):
        lines = ['  p a "N" hidden', "  part b hidden", '    p c "N"', "    part d", '      p e "N"', '  p f "N"']
        self.assertEqual(find("N", lines), ["f"])
        self.assertEqual(find("N", lines[:-1]), [])

    def test_those_in_a_box_that_is_said_whole(self):
        lines = ["  h1 a", '    p b "N"', "    part c", '      p d "N"', "  part e", '    p f "N"']
        self.assertEqual(find("N", lines), ["a", "f"])

    def test_after_rules(self):
        lines = ['  h1 a "A"', '    p b "B"', '  part c "B"', '    p d "B"']
        self.assertEqual(find("B", lines), ["d"])
        self.assertEqual(find("B", lines, rules_with(h1="q from kids", part="r whole from text")), ["a", "b", "c"])
        self.assertEqual(find("", lines, "".join(f"{kind} x\n" for kind in KINDS)), ["top", "a", "b", "c", "d"])
        self.assertEqual(find("B", lines, rules_with(page="x whole")), [])

    def test_after_presses(self):
        lines = ["  button a press flip:c flip:d", "  h1 b", '    p c "N"', '  p d "N" hidden']
        self.assertEqual(find("N", lines), ["b"])
        self.assertEqual(find("N", lines, before=[("press", "a")]), ["d"])
        self.assertEqual(find("N", lines, before=[("press", "a"), ("press", "a")]), ["b"])
        self.assertEqual(find("", lines, before=[("press", "a")]), ["top", "a", "b"])

    def test_a_name_longer_than_a_saying(self):
        lines = ["  h1 x"] + [f'    p {sign * 6} "{sign * 20}"' for sign in "abcdefghijklmn"]
        name = " ".join(sign * 20 for sign in "abcdefghijklmn")
        self.assertEqual(find(name, lines), ["x"])
        self.assertEqual(find(name[:-1], lines), [])

    def test_it_is_never_refused(self):
        for sought in ("", "x", [0], [255] * 4000, [10] * 4000, [34] * 4000):
            self.assertIsInstance(ask_last(("find", sought)), list)


if __name__ == "__main__":
    unittest.main()

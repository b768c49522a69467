"""Promise 1, page, and what the document says of pages' texts."""

import unittest

from helper import KINDS, ask, ask_last, page_of

KEY_WORDS = ("label", "by", "hint", "hidden", "off", "on", "order", "press")

# A box of each kind, where it may stand, and how deep that is.
HOMES = {
    "page": ([], 0),
    "row": (["  table ta"], 2),
    "cell": (["  table ta", "    row ro"], 3),
    "th": (["  table ta", "    row ro"], 3),
    "item": (["  list li"], 2),
}
ONLY_IN = {"row": "table", "cell": "row", "th": "row", "item": "list"}


def boxes_around(kind):
    """Lines up to a box of this kind with the id around, and how deep what stands in it is."""
    if kind == "page":
        return ["page around"], 1
    lines, depth = HOMES.get(kind, ([], 1))
    return ["page top"] + lines + [f"{'  ' * depth}{kind} around"], depth + 1


class PageTests(unittest.TestCase):
    def taken(self, text, count):
        self.assertEqual(ask_last(("page", text)), count, text)

    def refused(self, text):
        self.assertEqual(ask_last(("page", text)), -1, text)

    def box_taken(self, line, *others):
        self.taken(page_of("page top", "  " + line, *others), 2 + len(others))

    def box_refused(self, line, *others):
        self.refused(page_of("page top", "  " + line, *others))


class Ids(PageTests):
    def test_1_to_6_letters(self):
        for ident in ("a", "z", "ab", "abcde", "zzzzzz"):
            self.box_taken("p " + ident)
            self.assertEqual(ask(("page", page_of("  p " + ident)), ("role", ident)), [2, ("text", 0, 0, 0)])
        self.box_refused("p abcdefg")
        self.box_refused("p ")
        self.box_refused("p")

    def test_words_that_are_no_ids(self):
        for word in KEY_WORDS:
            self.box_refused("p " + word)
            self.refused(f"page {word}\n")

    def test_words_that_are_ids_all_the_same(self):
        for word in KINDS:
            if word not in ("h1", "h2", "h3"):
                self.box_taken("p " + word)
        for word in ("show", "hide", "flip", "focus", "whole", "from", "kids", "text", "labels", "bye", "onn"):
            self.box_taken("p " + word)

    def test_other_signs(self):
        for ident in ("A", "aB", "a1", "1", "a_b", "a-b", '"a"', "a:b", "\xe4", "a\xff", "a\x00", "a\t", "`", "{"):
            self.box_refused("p " + ident)

    def test_no_two_the_same(self):
        self.refused(page_of("page top", "  p top"))
        self.box_refused("p a", "  p b", "  p a")
        self.box_taken("p a", "  p b", "  p aa")


class Sayings(PageTests):
    def both(self, saying):
        return f'p a "{saying}"', f'p a label "{saying}"'

    def test_good_ones(self):
        for saying in ("a", "Z", "0", "9", "Sign in", "a b c d e f g h i j", "A" * 20, "123456789 123456789A",
                       "label", "by a", "hidden", "AZ az 09"):
            for line in self.both(saying):
                self.box_taken(line)

    def test_as_they_are_told(self):
        self.assertEqual(ask(("page", page_of('  p a "AZ az 09 label by"')), ("name", "a")),
                         [2, (3, "AZ az 09 label by")])
        self.assertEqual(ask(("page", page_of('  part a label "hidden off"')), ("name", "a"), ("role", "a")),
                         [2, (2, "hidden off"), ("part", 0, 0, 0)])

    def test_wrong_ones(self):
        for saying in ("", " ", " a", "a ", "a  b", "A" * 21, "123456789 123456789AB", "a.", "a-b", "a:b", "a_b",
                       "\xe4", "a\x80", "\xff", "a\tb", "a\x00", "?", "a/b", "@", "[", "`", "{", "a\nb", 'a"b', '"'):
            for line in self.both(saying):
                self.box_refused(line)

    def test_wrong_quotes(self):
        for words in ('"a', 'a"', "a", "'a'", '"', '""', '"a""', '""a"', '"a" "b"', '"a"b', 'b"a"'):
            self.box_refused("p x " + words)
            self.box_refused("p x label " + words)
        self.box_refused('p x"a"')
        self.box_refused('p "a" x')
        self.box_refused('"p" x')
        self.box_refused('p x "a"label "b"')
        self.box_refused('p x "a" label"b"')
        self.box_refused('p x "a" "label" "b"')


class Boxes(PageTests):
    def test_1_and_16(self):
        self.taken("page top\n", 1)
        idents = "abcdefghijklmnop"
        self.taken(page_of("page top", *[f"  p {ident}" for ident in idents[:15]]), 16)
        self.refused(page_of("page top", *[f"  p {ident}" for ident in idents[:16]]))
        self.refused("")

    def test_every_kind(self):
        for kind in KINDS:
            lines, depth = boxes_around(kind)
            self.taken(page_of(*lines), len(lines))
        for word in ("div", "h4", "h", "H1", "pages", "label", "text", "", "part.", "\xe4"):
            self.box_refused(word + " a")

    def test_first_box(self):
        for line in ("part top", "  page top", " page top", "page top hidden", "p top", "page", "page top hidden off",
                     'page top "A" hidden'):
            self.refused(line + "\n")
        self.taken('page top "Text" label "L" by top hint top off order 3\n', 1)
        self.taken("page a\n", 1)

    def test_only_one_page(self):
        self.box_refused("page b")
        self.box_refused("part b", "    page c")
        self.refused("page top\npage b\n")

    def test_depth_0_to_5(self):
        lines = ["page top"] + [f"{'  ' * depth}part {'abcdef'[depth]}" for depth in range(1, 6)]
        for count in range(1, 7):
            self.taken(page_of(*lines[:count]), count)
        self.refused(page_of(*lines, "            part z"))
        self.taken(page_of(*lines, "          part z"), 7)

    def test_others_are_at_least_1_and_at_most_one_deeper(self):
        self.refused("page top\npart a\n")
        self.refused("page top\n    part a\n")
        self.box_refused("part a", "      part b")
        self.box_refused("part a", "part b")
        self.box_taken("part a", "    part b", "      part c", "  part d")
        self.box_refused("part a", "    part b", "  part c", "      part d")

    def test_two_blanks_for_each_level(self):
        for blanks in (0, 1, 3, 4, 5):
            self.refused(page_of("page top", " " * blanks + "part a"))
        self.refused("page top\n\tpart a\n")
        self.refused(page_of("page top", "  part a", "   part b"))

    def test_which_may_stand_in_which(self):
        for around in KINDS:
            lines, depth = boxes_around(around)
            for kind in KINDS:
                text = page_of(*lines, f"{'  ' * depth}{kind} x")
                if kind == "page":
                    fits = False
                elif kind in ONLY_IN:
                    fits = ONLY_IN[kind] == around
                else:
                    fits = around not in ("table", "row", "list")
                self.assertEqual(ask_last(("page", text)), len(lines) + 1 if fits else -1, text)

    def test_stands_in_the_last_box_that_is_less_deep(self):
        self.box_taken("table a", "    row b", "      cell c", "        p d", "    row e", "      th f")
        self.box_refused("table a", "    row b", "      cell c", "    cell d")
        self.box_refused("table a", "    row b", "  row c")
        self.box_refused("list a", "    item b", "    p c")
        self.box_taken("list a", "    item b", "  p c")
        self.box_taken("list a", "    item b", "      list c", "        item d", "    item e")


class Parts(PageTests):
    def test_all_parts(self):
        self.box_taken('check a "T" label "L" by top a b hint a hidden off on order 9 press show:a hide:b flip:top',
                       "  p b")
        self.box_taken('link a "T" label "L" by top hint a hidden off order 1 press show:a')
        self.box_taken('field a "T" label "L" by top hint a hidden off order 5')

    def test_each_part_alone(self):
        for part in ('"T"', 'label "L"', "by a", "hint a", "hidden", "off", "on", "order 1", "press flip:a"):
            self.box_taken("check a " + part)
            self.box_refused(f"check a {part} {part}")

    def test_every_two_parts_in_their_order_alone(self):
        parts = ('"T"', 'label "L"', "by a", "hint a", "hidden", "off", "on", "order 1", "press flip:a")
        for early in range(len(parts)):
            for late in range(early + 1, len(parts)):
                self.box_taken(f"check a {parts[early]} {parts[late]}")
                self.box_refused(f"check a {parts[late]} {parts[early]}")
                self.box_refused(f"check a {parts[early]} {parts[late]} {parts[early]}")

    def test_parts_ahead_of_the_id(self):
        for line in ("hidden check a", "check hidden a", 'check "T" a', "a check", "check a b", "check check a",
                     "label", "off check a"):
            self.box_refused(line)

    def test_key_words_without_what_follows(self):
        for part in ("label", "by", "hint", "order", "press", "label label", "by hidden", "hint off", "order on"):
            self.box_refused("check a " + part)

    def test_more_behind_words_that_stand_alone(self):
        for part in ("hidden a", "off a", "on a", "hidden 1", 'off "T"', "on on", "hidden yes", "hint a a",
                     'label "L" "M"', "order 1 2"):
            self.box_refused("check a " + part)

    def test_wrong_key_words(self):
        for part in ("Hidden", "HIDDEN", "hiden", '"hidden"x', "labels", "of", "disabled", "\xe4", "?"):
            self.box_refused("check a " + part)

    def test_by_1_to_3(self):
        for idents in ("a", "b", "a b", "b a", "a b c", "c b a", "top a b"):
            self.box_taken("field a by " + idents, "  p b hidden", "  p c")
        self.box_refused("field a by a b c d", "  p b", "  p c", "  p d")
        self.box_refused("field a by a a", "  p b")
        self.box_refused("field a by a b a", "  p b")
        self.box_refused("field a by b b", "  p b")
        self.box_refused("field a by a,b", "  p b")
        self.box_refused('field a by "b"', "  p b")

    def test_named_ids_are_boxes(self):
        for part in ("by {}", "by a {}", "by a b {}", "hint {}", "press show:{}", "press show:a hide:{}",
                     "press show:a hide:b flip:{}"):
            for ident in ("c", "top"):
                self.box_taken("check a " + part.format(ident), "  p b", "  p c")
            for ident in ("d", "", "abcdefg", "A", "by", "1", "\xe4", "c:", ":c", "show:c"):
                self.box_refused("check a " + part.format(ident), "  p b", "  p c")

    def test_named_ahead_of_its_own_line(self):
        self.taken(page_of("page top by c hint b", "  link a press flip:c", "  p b", '  p c "T"'), 4)
        self.taken("page top by top hint top\n", 1)

    def test_on_only_a_check(self):
        for kind in KINDS:
            lines, depth = boxes_around(kind)
            taken = ask_last(("page", page_of(*lines[:-1], lines[-1] + " on")))
            self.assertEqual(taken, len(lines) if kind == "check" else -1, kind)

    def test_acts_only_of_links_buttons_checks(self):
        for kind in KINDS:
            lines, depth = boxes_around(kind)
            taken = ask_last(("page", page_of(*lines[:-1], lines[-1] + " press show:around")))
            self.assertEqual(taken, len(lines) if kind in ("link", "button", "check") else -1, kind)

    def test_the_rest_of_every_kind(self):
        for kind in KINDS:
            lines, depth = boxes_around(kind)
            for part in ('"T"', 'label "L"', "by around", "hint around", "off", "order 2"):
                self.taken(page_of(*lines[:-1], lines[-1] + " " + part), len(lines))
            if kind != "page":
                self.taken(page_of(*lines[:-1], lines[-1] + " hidden"), len(lines))

    def test_order_1_to_9(self):
        for number in range(1, 10):
            self.box_taken(f"field a order {number}")
        for word in ("0", "10", "01", "-1", "+1", "1.", "a", "", '"1"', "11", "12", "123456789", "\xb2", "\xb9"):
            self.box_refused("field a order " + word)

    def test_1_to_3_acts(self):
        for acts in ("show:a", "hide:a", "flip:a", "show:a show:a", "flip:a flip:a flip:a", "hide:top show:b flip:a"):
            self.box_taken("button a press " + acts, "  p b")
        for acts in ("show:a show:a show:a show:a", "show", "show:", ":a", "a", "show a", "show: a", "show :a",
                     "show::a", "open:a", "Show:a", "show:a:b", "show:a,hide:b", '"show:a"', "showa:a", "sho:a",
                     "show:a hide", "flip:a b"):
            self.box_refused("button a press " + acts, "  p b")


class Lines(PageTests):
    def test_each_line_is_ended(self):
        self.refused("page top")
        self.refused("page top\n  p a")
        self.refused("page top  p a\n")
        self.refused("page top\n\n")
        self.refused("\npage top\n")
        self.refused("page top\n\n  p a\n")
        self.refused("page top\r\n")
        self.refused("page top\n  p a\r\n")
        self.refused("page top\n\x00")
        self.refused("\n")
        self.refused(" ")

    def test_a_blank_too_many(self):
        for text in ("page top \n", "page  top\n", " page top\n", "page top\n ", 'page top "T" \n', "page top off \n",
                     "page top  off\n", 'page top "T"  off\n', "page top by top \n", "page top by  top\n",
                     'page top label  "L"\n', "page top\n  p a \n", "page top\n  p  a\n", "page top\n  \n"):
            self.refused(text)

    def test_a_tab_is_no_blank(self):
        self.refused("page\ttop\n")
        self.refused("page top\toff\n")

    def test_bytes_from_128(self):
        good = list(b'page top "T" off\n')
        for byte in list(range(128, 256)) + [0, 9, 11, 13, 31, 33, 127]:
            for at in range(len(good) + 1):
                self.refused(good[:at] + [byte] + good[at:])
            self.refused([byte])

    def test_a_long_text(self):
        self.refused("\n" * 4000)
        self.refused(" " * 4000)
        self.refused("page top " + "a" * 3991)
        self.refused('"' * 4000)
        self.refused("page top\n" * 400)


class Answers(PageTests):
    def test_a_page_is_the_page_from_now_on(self):
        self.assertEqual(ask(("page", page_of("  p a")), ("role", "a"), ("page", page_of("page b", "  h1 c")),
                             ("role", "a"), ("role", "top"), ("role", "b"), ("role", "c")),
                         [2, ("text", 0, 0, 0), 2, -3, -3, ("page", 0, 0, 0), ("heading", 1, 0, 0)])

    def test_a_new_page_is_in_its_state_at_first(self):
        text = page_of("  check a", "  check b on", "  button c press hide:d show:e", "  p d", "  p e hidden")
        line = [("page", text), ("press", "a"), ("press", "b"), ("press", "c"), ("press", "a")]
        expected = [5 + 1, (1, 2), (1, 1), (1, 1), (1, 0)]
        self.assertEqual(ask(*line), expected)
        asked = [("role", "a"), ("role", "b"), ("said", "d"), ("said", "e")]
        self.assertEqual(ask(*line, *asked)[5:], [("check", 0, 0, 1), ("check", 0, 0, 1), -6, "text"])
        self.assertEqual(ask(*line, ("page", text), *asked, ("press", "a"))[5:],
                         [6, ("check", 0, 0, 1), ("check", 0, 0, 2), "text", -6, (1, 2)])


if __name__ == "__main__":
    unittest.main()

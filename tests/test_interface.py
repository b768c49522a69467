"""The interface: how calls and answers are laid, what stays as it was, and that nothing is kept."""

import unittest

from helper import FIRST_RULES, KINDS, ask, numbers_of_call, page_of, raw, rules_with
from saidrow.pages import answers

PAGE = page_of('  check a "A"', '  check b "B" off on press hide:d', "  part c hidden", '  h1 d', '    p e "E"',
               '  button f hint e press flip:c show:d')
IDENTS = ("a", "b", "c", "d", "e", "f")


def refuse_change(*ignored, **also_ignored):
    raise AssertionError("the list handed in was changed")


class Untouched(list):
    """A list that may not be changed, not for a while either."""

    append = clear = extend = insert = pop = remove = reverse = sort = refuse_change
    __setitem__ = __delitem__ = __iadd__ = __imul__ = refuse_change


def line(*calls):
    return [number for call in calls for number in numbers_of_call(call)]


class Layout(unittest.TestCase):
    def test_numbers_as_they_stand(self):
        self.assertEqual(answers([12]), [3, 1, 1, 4])
        self.assertEqual(answers([0, 9] + list(b"page top\n")), [1, 1])
        self.assertEqual(answers([0, 0]), [1, -1])
        self.assertEqual(answers([1, 0]), [1, -1])
        self.assertEqual(answers([1, len(FIRST_RULES)] + list(FIRST_RULES.encode())), [1, 8])
        self.assertEqual(answers([2, 3] + list(b"top")), [1, -5])
        self.assertEqual(answers([3, 3] + list(b"top")), [2, 0, 0])
        self.assertEqual(answers([4, 3] + list(b"top")), [8, 4] + list(b"page") + [0, 0, 0])
        self.assertEqual(answers([5, 3] + list(b"top")), [2, 0, 0])
        self.assertEqual(answers([6, 3] + list(b"top")), [5, 4] + list(b"page"))
        self.assertEqual(answers([7]), [10, 1, 3] + list(b"top") + [4] + list(b"page"))
        self.assertEqual(answers([8, 0]), [5, 1, 3] + list(b"top"))
        self.assertEqual(answers([8, 1, 65]), [1, 0])
        self.assertEqual(answers([9, 1, 3] + list(b"top")), [1, 0])
        self.assertEqual(answers([9, 0, 3] + list(b"top")), [1, -5])
        self.assertEqual(answers([9, 1, 0]), [1, -3])
        self.assertEqual(answers([10, 3] + list(b"top") + [2, 65, 66]), [1, 0])
        self.assertEqual(answers([10, 3] + list(b"top") + [0]), [1, 0])
        self.assertEqual(answers([10, 3] + list(b"top") + [1, 32]), [1, -1])
        self.assertEqual(answers([10, 0, 1, 65]), [1, -3])
        self.assertEqual(answers([10, 0, 0]), [1, -3])
        self.assertEqual(answers([11, 3] + list(b"top")), [1, 0])
        for number in (2, 3, 4, 5, 6, 11):
            self.assertEqual(answers([number, 0]), [1, -3])

    def test_one_behind_another(self):
        text = list(b'page top\n  check a "A"\n')
        self.assertEqual(
            answers([12, 0, len(text)] + text + [2, 1, 97, 3, 1, 97, 5, 1, 97, 6, 1, 98, 6, 1, 97, 12]),
            [3, 1, 1, 4, 1, 2, 2, 0, 1, 3, 3, 1, 65, 2, 0, 0, 1, -3, 13, 12] + list(b'check "A" on') + [3, 2, 1, 16])

    def test_a_number_ahead_and_two_texts_between_other_calls(self):
        text = list(b'page top\n  field a by b\n  p b "B"\n')
        self.assertEqual(
            answers([7, 0, len(text)] + text + [9, 1, 1, 97, 10, 1, 97, 1, 76, 9, 2, 1, 97, 11, 1, 98, 8, 1, 66, 12]),
            [10, 1, 3] + list(b"top") + [4] + list(b"page") + [1, 3, 2, 1, 66, 1, 0, 2, 1, 76, 3, 1, 1, 97]
            + [5, 2, 1, 97, 1, 98, 3, 3, 1, 4 + 9 + 8])

    def test_numbers_of_calls_within_texts_and_as_k(self):
        for number in range(13):
            self.assertEqual(answers([8, 1, number, 12]), [1, 0, 3, 1, 1, 4])
            self.assertEqual(answers([10, 3] + list(b"top") + [1, number, 12]), [1, -1, 3, 1, 1, 4])
            self.assertEqual(answers([9, number, 1, number, 12]), [1, -3, 3, 1, 1, 4])

    def test_40_calls(self):
        self.assertEqual(answers([12] * 40), [3, 1, 1, 4] * 40)
        self.assertEqual(answers([7] * 40), [10, 1, 3, 116, 111, 112, 4, 112, 97, 103, 101] * 40)
        self.assertEqual(answers([9, 5, 3, 116, 111, 112] * 40), [1, 0] * 40)
        self.assertEqual(answers([10, 3, 116, 111, 112, 1, 65] * 40), [1, 0] + [2, 1, 65] * 39)

    def test_40_rows_of_16_boxes(self):
        idents = [sign * 6 for sign in "abcdefghijklmno"]
        lines = [f'  part {ident} "{"T" * 20}" label "L" by {" ".join((idents * 2)[at:at + 3])} hint {ident}'
                 for at, ident in enumerate(idents)]
        said = [("top", "page")] + [(ident, f'part "L L L" hint "L" text "{"T" * 20}"') for ident in idents]
        given = ask(("page", page_of(*lines)), *[("row",)] * 39)
        self.assertEqual(given, [16] + [said] * 39)

    def test_the_longest_texts(self):
        for number, refusal in ((0, -1), (1, -1), (2, -3), (3, -3), (4, -3), (5, -3), (6, -3), (8, 0), (11, -3)):
            for byte in (0, 10, 32, 34, 97, 255):
                self.assertEqual(answers([number, 4000] + [byte] * 4000 + [12]), [1, refusal, 3, 1, 1, 4])
        for byte in (0, 10, 32, 34, 97, 255):
            longest = [4000] + [byte] * 4000
            self.assertEqual(answers([9, 10 ** 18] + longest + [12]), [1, -3, 3, 1, 1, 4])
            self.assertEqual(answers([10] + longest + longest + [12]), [1, -3, 3, 1, 1, 4])
            self.assertEqual(answers([10, 3] + list(b"top") + longest + [12]), [1, -1, 3, 1, 1, 4])

    def test_the_longest_list(self):
        longest = [4000] + [120] * 4000
        numbers = [10] + longest + longest + [10] + longest + longest
        numbers += [8, 16987 - len(numbers)] + [0] * (16987 - len(numbers)) + [12] * 11
        self.assertEqual(len(numbers), 17000)
        self.assertEqual(answers(numbers), [1, -3, 1, -3, 1, 0] + [3, 1, 1, 4] * 11)

    def test_whole_numbers_alone(self):
        calls = [("page", PAGE), ("rules", FIRST_RULES), ("press", "a"), ("role", "a"), ("role", "b"), ("size",),
                 ("name", "f"), ("hint", "f"), ("press", "f"), ("row",), ("find", "A"), ("source", 5, "f"),
                 ("label", "f", "F"), ("users", "e")]
        for part in raw(line(*calls)):
            self.assertTrue(all(type(number) is int for number in part))


class Handed(unittest.TestCase):
    def test_the_list_is_never_changed(self):
        numbers = line(("page", PAGE), ("press", "a"), ("rules", rules_with(p="x")), ("press", "f"), ("name", "f"),
                       ("role", "a"), ("hint", "f"), ("said", "d"), ("said", "e"), ("size",), ("page", "x"), ("row",),
                       ("find", "E"), ("source", 4, "d"), ("label", "a", "New"), ("label", "a", ""),
                       ("label", "a", " "), ("users", "e"), ("row",))
        untouched = Untouched(numbers)
        first = answers(untouched)
        self.assertEqual(list(untouched), numbers)
        self.assertEqual(answers(untouched), first)
        self.assertEqual(answers(list(numbers)), first)

    def test_nothing_is_kept(self):
        ask_all = line(("role", "top"), ("name", "top"), ("said", "top"), ("press", "a"), ("size",), ("row",),
                       ("source", 2, "top"), ("find", ""), ("users", "top"))
        before = answers(ask_all)
        answers(line(("label", "top", "All"), ("size",)))
        self.assertEqual(answers(ask_all), before)
        answers(line(("page", PAGE), ("press", "a"), ("press", "f"), ("rules", "".join(f"{k} x whole\n" for k in KINDS))))
        answers(line(("rules", rules_with(page="x whole")), ("page", "page a\n")))
        self.assertEqual(answers(ask_all), before)

    def test_answers_are_not_one_and_the_same_list(self):
        first = answers([12])
        first.append(5)
        self.assertEqual(answers([12]), [3, 1, 1, 4])


class AsItWas(unittest.TestCase):
    PROBES = ([("name", ident) for ident in IDENTS] + [("role", ident) for ident in IDENTS]
              + [("hint", ident) for ident in IDENTS] + [("source", 2, ident) for ident in IDENTS]
              + [("row",), ("find", ""), ("find", "E"), ("users", "e"), ("size",), ("press", "a"), ("press", "f")])
    REFUSED = ([("page", text) for text in ("", "page top", "page top\n\n", "page x \n", PAGE[:-1], PAGE + " ",
                                            PAGE + "page z\n", PAGE + "  p a\n", PAGE + "  p z by y\n",
                                            PAGE.replace("check a", "check a on on"), "\xe4")]
               + [("rules", text) for text in ("", FIRST_RULES[:-1], FIRST_RULES + "\n", FIRST_RULES * 2,
                                               "".join(f"{kind} x whole\n" for kind in KINDS[:-1]),
                                               "".join(f"{kind} x\n" for kind in KINDS[::-1]),
                                               rules_with(page="x whole", modal="whole"), "\xff")]
               + [(word, ident) for word in ("press", "name", "role", "hint", "said", "users")
                  for ident in ("", "z", "top ")]
               + [("press", ident) for ident in ("b", "c", "d", "e", "top")] + [("said", "e")]
               + [("source", k, ident) for k in (-1, 0, 1, 6) for ident in ("", "z")]
               + [("source", k, "f") for k in (-1, 0, 6, 10 ** 18, -10 ** 18)]
               + [("label", ident, saying) for ident in ("", "z") for saying in ("", "A", " ")]
               + [("label", ident, saying) for ident in ("a", "f") for saying in (" ", "A ", "a" * 21, "\xe4", '"A"')])

    def test_after_each_refusal(self):
        for before in ([], [("press", "a")], [("press", "f"), ("press", "a")],
                       [("rules", rules_with(h1="title whole from text kids", p="x"))],
                       [("label", "a", "New"), ("label", "c", "C")]):
            start = [("page", PAGE)] + before
            plain = ask(*start, *self.PROBES)[len(start):]
            for call in self.REFUSED:
                given = ask(*start, call, *self.PROBES)[len(start):]
                self.assertLess(given[0], 0, call)
                self.assertEqual(given[1:], plain, call)

    def test_on_a_new_object(self):
        probes = [("name", "top"), ("role", "top"), ("hint", "top"), ("said", "top"), ("row",), ("find", ""),
                  ("source", 2, "top"), ("users", "top"), ("size",)]
        plain = ask(*probes)
        self.assertEqual(plain, [(0, ""), ("page", 0, 0, 0), ("", ""), "page", [("top", "page")], ["top"], "", [],
                                 (1, 1, 4)])
        for call in self.REFUSED:
            self.assertEqual(ask(call, *probes)[1:], plain, call)

    def test_what_only_asks_changes_nothing(self):
        plain = ask(("page", PAGE), *self.PROBES)[1:]
        for call in (("name", "f"), ("role", "a"), ("hint", "f"), ("said", "d"), ("size",), ("row",), ("find", "E"),
                     ("source", 1, "f"), ("source", 4, "d"), ("users", "e")):
            given = ask(("page", PAGE), call, call, *self.PROBES)[1:]
            self.assertEqual(given[0], given[1])
            self.assertEqual(given[2:], plain)


if __name__ == "__main__":
    unittest.main()

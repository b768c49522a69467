"""Promise 3, press, and what the document says of states."""

import unittest

from helper import KINDS, ask, ask_last, page_of, rules_with


class Refused(unittest.TestCase):
    def test_no_box(self):
        text = page_of("  check a")
        for ident in ("b", "", "A", "aa", "a ", " a", "\xff", "a\n", [200], [0], "a" * 4000):
            self.assertEqual(ask_last(("page", text), ("press", ident)), -3, ident)

    def test_it_does_nothing(self):
        for kind in ("part", "h1", "p", "link", "button", "field", "image", "list", "table", "live", "modal"):
            self.assertEqual(ask_last(("page", page_of(f"  {kind} a")), ("press", "a")), -5, kind)
        self.assertEqual(ask_last(("press", "top")), -5)

    def test_doing_nothing_is_looked_at_first(self):
        for words in ("off", "hidden", "hidden off"):
            self.assertEqual(ask_last(("page", page_of(f"  button a {words}")), ("press", "a")), -5)
        self.assertEqual(ask_last(("page", page_of("  button a", "  modal m")), ("press", "a")), -5)

    def test_off(self):
        for line in ("check a off", "check a off on", "link a off press show:a", "button a off press show:a"):
            self.assertEqual(ask_last(("page", page_of("  " + line)), ("press", "a")), -6, line)

    def test_only_its_own_off_counts(self):
        self.assertEqual(ask_last(("page", page_of("page top off", "  part b off", "    check a")), ("press", "a")),
                         (0, 1))

    def test_hidden(self):
        for lines in (["  check a hidden"], ["  part b hidden", "    check a"],
                      ["  part c hidden", "    part b", "      part d", "        check a"]):
            self.assertEqual(ask_last(("page", page_of(*lines)), ("press", "a")), -6, lines)

    def test_beside_a_hidden_box(self):
        lines = ["  part b hidden", "    part c hidden", "  check a"]
        self.assertEqual(ask_last(("page", page_of(*lines)), ("press", "a")), (2, 1))

    def test_what_is_in_a_box_may_be_hidden(self):
        self.assertEqual(ask_last(("page", page_of("  check a", "    p b hidden")), ("press", "a")), (1, 1))

    def test_a_refused_press_leaves_all_as_it_was(self):
        text = page_of("  check a off on press hide:c", "  check b hidden press hide:c", "  p c", "  check d")
        asked = [("role", "a"), ("role", "b"), ("said", "a"), ("said", "b"), ("said", "c"), ("size",), ("press", "d")]
        plain = ask(("page", text), *asked)[1:]
        for ident in ("a", "b", "c", "e", ""):
            self.assertEqual(ask(("page", text), ("press", ident), *asked)[2:], plain, ident)


class Pressed(unittest.TestCase):
    def test_a_check(self):
        self.assertEqual(ask(("page", page_of("  check a", "  check b on", "  p c hidden")), ("press", "a"),
                             ("role", "a"), ("press", "b"), ("role", "b"), ("press", "a"), ("press", "b"),
                             ("role", "a"), ("role", "b")),
                         [4, (1, 2), ("check", 0, 0, 2), (1, 1), ("check", 0, 0, 1), (1, 0), (1, 1),
                          ("check", 0, 0, 1), ("check", 0, 0, 2)])

    def test_only_the_one_is_pressed(self):
        self.assertEqual(ask(("page", page_of("  check a", "  check b")), ("press", "b"), ("role", "a"), ("role", "b")),
                         [3, (0, 1), ("check", 0, 0, 1), ("check", 0, 0, 2)])

    def test_a_link_and_a_button_are_never_on(self):
        for kind in ("link", "button"):
            self.assertEqual(ask(("page", page_of(f"  {kind} a press show:a")), ("press", "a"), ("role", "a")),
                             [2, (0, 0), (kind, 0, 0, 0)])

    def test_each_act(self):
        for deed, hidden, after in (("show", "", "text"), ("show", " hidden", "text"), ("hide", "", -6),
                                    ("hide", " hidden", -6), ("flip", "", -6), ("flip", " hidden", "text")):
            text = page_of(f"  button a press {deed}:b", f"  p b{hidden}")
            self.assertEqual(ask(("page", text), ("press", "a"), ("said", "b")),
                             [3, (1 if after == -6 else 0, 0), after], text)

    def test_acts_again(self):
        text = page_of("  button a press {}:b", "  p b")
        for deed, counts in (("show", (0, 0, 0)), ("hide", (1, 1, 1)), ("flip", (1, 0, 1))):
            given = ask(("page", text.format(deed)), ("press", "a"), ("press", "a"), ("press", "a"))
            self.assertEqual(given[1:], [(count, 0) for count in counts])

    def test_acts_are_done_one_after_the_other(self):
        for acts, count in (("show:b hide:b", 1), ("hide:b show:b", 0), ("flip:b flip:b", 0), ("hide:b flip:b", 0),
                            ("flip:b hide:b", 1), ("show:b flip:b", 1), ("flip:b show:b", 0), ("flip:b flip:b flip:b", 1),
                            ("hide:b hide:c flip:b", 1), ("hide:b hide:c hide:d", 3), ("flip:b flip:c show:b", 1)):
            text = page_of(f"  link a press {acts}", "  p b", "  p c", "  p d")
            self.assertEqual(ask_last(("page", text), ("press", "a")), (count, 0), acts)

    def test_a_check_with_acts_is_on_too(self):
        text = page_of("  check a press hide:b flip:c", "  p b", "  p c hidden")
        self.assertEqual(ask(("page", text), ("press", "a"), ("press", "a"), ("said", "c")), [4, (1, 1), (2, 0), -6])

    def test_acts_go_on_when_the_box_hides_itself(self):
        text = page_of("  check a press hide:a hide:b flip:c", "  p b", "  p c")
        self.assertEqual(ask(("page", text), ("press", "a"), ("press", "a"), ("role", "a")),
                         [4, (3, 1), -6, ("check", 0, 0, 2)])

    def test_acts_press_nothing(self):
        text = page_of("  button a press flip:b", "  check b press hide:c", "  p c")
        self.assertEqual(ask(("page", text), ("press", "a"), ("role", "b")), [4, (1, 0), ("check", 0, 0, 1)])

    def test_the_page_itself_may_be_hidden(self):
        text = page_of("  button a press hide:top", "  check b")
        self.assertEqual(ask(("page", text), ("press", "a"), ("press", "a"), ("press", "b"), ("size",), ("said", "top")),
                         [3, (1, 0), -6, -6, (0, 0, 0), -6])

    def test_hidden_ones_are_counted_not_what_is_in_them(self):
        text = page_of("  check a", "  part b hidden", "    p c", "    p d hidden", "      p e")
        self.assertEqual(ask_last(("page", text), ("press", "a")), (2, 1))

    def test_checks_that_are_on_are_counted_where_they_are(self):
        text = page_of("  check a", "  part b hidden", "    check c on", "  check d off on")
        self.assertEqual(ask_last(("page", text), ("press", "a")), (1, 3))

    def test_a_box_in_one_that_is_said_whole_can_be_pressed(self):
        text = page_of("  h1 b", "    check a", "  button c press hide:a", "    link d press hide:b")
        self.assertEqual(ask(("page", text), ("press", "a"), ("said", "a"), ("press", "d")), [5, (0, 1), -6, (1, 1)])

    def test_rules_have_no_part_in_it(self):
        rules = "".join(f"{kind} x whole\n" for kind in KINDS)
        text = page_of("  part b", "    check a", "    link c")
        self.assertEqual(ask(("rules", rules), ("page", text), ("press", "a"), ("press", "c")), [19, 4, (0, 1), -5])
        self.assertEqual(ask_last(("rules", rules_with(check="x")), ("page", text), ("press", "a")), (0, 1))


class Modals(unittest.TestCase):
    def presses(self, lines, expected, *before):
        text = page_of(*lines)
        for ident, count in expected.items():
            self.assertEqual(ask_last(("page", text), *before, ("press", ident)), count, ident)

    def test_one_modal(self):
        lines = ["  check a", "  modal m", "    check b", "    part p", "      check c", "  check d"]
        self.presses(lines, {"a": -6, "b": (0, 1), "c": (0, 1), "d": -6})

    def test_a_hidden_modal(self):
        lines = ["  check a", "  modal m hidden", "    check b"]
        self.presses(lines, {"a": (1, 1), "b": -6})

    def test_a_modal_in_a_hidden_box(self):
        lines = ["  check a", "  part p hidden", "    modal m", "      check b"]
        self.presses(lines, {"a": (1, 1), "b": -6})

    def test_the_last_of_two(self):
        lines = ["  check a", "  modal m", "    check b", "  modal n", "    check c", "  check d"]
        self.presses(lines, {"a": -6, "b": -6, "c": (0, 1), "d": -6})

    def test_the_last_of_two_that_is_visible(self):
        lines = ["  check a", "  modal m", "    check b", "  modal n hidden", "    check c"]
        self.presses(lines, {"a": -6, "b": (1, 1), "c": -6})

    def test_one_modal_in_another(self):
        lines = ["  check a", "  modal m", "    check b", "    modal n", "      check c", "    check d"]
        self.presses(lines, {"a": -6, "b": -6, "c": (0, 1), "d": -6})
        lines[3] += " hidden"
        self.presses(lines, {"a": -6, "b": (1, 1), "c": -6, "d": (1, 1)})

    def test_a_modal_without_anything_in_it(self):
        self.presses(["  check a", "  modal m"], {"a": -6})
        self.presses(["  modal m", "  check a"], {"a": -6})

    def test_off_in_a_modal(self):
        self.presses(["  modal m", "    check a off"], {"a": -6})

    def test_a_modal_comes_and_goes(self):
        text = page_of("  button a press show:m", "  modal m hidden", "    button b press hide:m")
        self.assertEqual(ask(("page", text), ("press", "b"), ("press", "a"), ("press", "a"), ("press", "b"),
                             ("press", "b"), ("press", "a")),
                         [4, -6, (0, 0), -6, (1, 0), -6, (0, 0)])

    def test_a_modal_has_no_part_in_what_is_said(self):
        text = page_of('  p a "A"', '  modal m label "M"', '    p b "B"')
        self.assertEqual(ask(("page", text), ("said", "a"), ("said", "m"), ("said", "b"), ("size",)),
                         [4, 'text "A"', 'modal "M"', 'text "B"', (4, 1, 4 + 8 + 9 + 8)])

    def test_its_role_has_no_part_in_it(self):
        rules = rules_with(part="modal", modal="part")
        self.assertEqual(ask_last(("rules", rules), ("page", page_of("  check a", "  part b")), ("press", "a")), (0, 1))
        self.assertEqual(ask_last(("rules", rules), ("page", page_of("  check a", "  modal b")), ("press", "a")), -6)


if __name__ == "__main__":
    unittest.main()

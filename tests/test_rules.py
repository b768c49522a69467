"""Promise 2, rules, and what the document says of their text and of the rules at first."""

import itertools
import unittest

from helper import FIRST_RULES, KINDS, ask, ask_last, page_of, rules_with

# h1, h2, h3, link, button, check, th, image
WHOLE_AT_FIRST = 8


class RulesTests(unittest.TestCase):
    def taken(self, text, whole):
        self.assertEqual(ask_last(("rules", text)), whole, text)

    def refused(self, text):
        self.assertEqual(ask_last(("rules", text)), -1, text)


class Forms(RulesTests):
    def test_rules_at_first(self):
        self.taken(FIRST_RULES, WHOLE_AT_FIRST)

    def test_how_many_are_whole(self):
        self.taken("".join(f"{kind} x\n" for kind in KINDS), 0)
        self.taken("".join(f"{kind} x whole\n" for kind in KINDS), 19)
        self.taken("".join(f"{kind} x focus\n" for kind in KINDS), 0)
        for kind in KINDS:
            self.taken("".join(f"{other} x{' whole' if other == kind else ''}\n" for other in KINDS), 1)

    def test_roles(self):
        for role in ("a", "z", "abcdefgh", "zzzzzzzz", "by", "kids", "label", "hint", "page", "on", "off", "hidden"):
            self.taken(rules_with(p=role), WHOLE_AT_FIRST)
            self.assertEqual(ask(("rules", rules_with(page=role)), ("role", "top")), [WHOLE_AT_FIRST, (role, 0, 0, 0)])
        for role in ("abcdefghi", "", "focus", "whole", "from", "A", "aB", "a1", "1", "a-b", '"a"', "\xe4", "a\xff",
                     "`", "{", "?"):
            self.refused(rules_with(p=role))
            self.refused(rules_with(p=role + " from text"))

    def test_focus_and_whole(self):
        for words, whole in (("x", 0), ("x focus", 0), ("x whole", 1), ("x focus whole", 1), ("x from text", 0),
                             ("x focus from text", 0), ("x whole from text", 1), ("x focus whole from text", 1)):
            self.taken(rules_with(p=words), WHOLE_AT_FIRST + whole)
        for words in ("x whole focus", "x focus focus", "x whole whole", "x from text focus", "x from text whole",
                      "focus x", "whole x", "x Focus", "x WHOLE", "x y", "x focus y", "x whole y", "x focus whole y",
                      "x whole from", "x focus text", "x text", "x by label"):
            self.refused(rules_with(p=words))

    def test_sources_in_every_order(self):
        for count in range(1, 6):
            for sources in itertools.permutations(("by", "label", "text", "kids", "hint"), count):
                self.taken(rules_with(p="x from " + " ".join(sources)), WHOLE_AT_FIRST)
        for words in ("x from", "x from from", "x from by by", "x from by label by", "x from by label text kids hint by",
                      "x from role", "x from By", "x from by,label", "x from by from label", "x from \"by\"",
                      "x from by x", "x from x by", "x from kid", "x from \xe4"):
            self.refused(rules_with(p=words))

    def test_a_line_for_each_kind_in_order(self):
        lines = FIRST_RULES.splitlines(keepends=True)
        for at in range(19):
            self.refused("".join(lines[:at] + lines[at + 1:]))
            self.refused("".join(lines[:at] + [lines[at]] + lines[at:]))
            if at:
                self.refused("".join(lines[:at - 1] + [lines[at], lines[at - 1]] + lines[at + 1:]))
        self.refused("")
        self.refused("\n")
        self.refused("\n" * 19)
        self.refused(FIRST_RULES + "other x\n")
        self.refused(FIRST_RULES + "\n")
        self.refused("\n" + FIRST_RULES)
        self.refused(FIRST_RULES + FIRST_RULES)

    def test_each_line_is_ended(self):
        self.refused(FIRST_RULES[:-1])
        self.refused(FIRST_RULES[:-1] + " ")
        self.refused(FIRST_RULES + " ")
        self.refused(FIRST_RULES.replace("\n", "\r\n"))
        self.refused(FIRST_RULES.replace("row row\n", "row row "))

    def test_a_blank_too_many(self):
        for at in range(len(FIRST_RULES) + 1):
            if " " in FIRST_RULES[max(at - 1, 0):at + 1] or "\n" in FIRST_RULES[max(at - 1, 0):at + 1] or at == 0:
                self.refused(FIRST_RULES[:at] + " " + FIRST_RULES[at:])

    def test_wrong_kinds(self):
        for line in ("p", "", "q x", "x p", "P x", "par x", "pp x"):
            self.refused(FIRST_RULES.replace("p text from text\n", line + "\n"))

    def test_bytes_from_128(self):
        good = list(FIRST_RULES.encode())
        for byte in list(range(128, 256)) + [0, 9, 13, 127]:
            for at in (0, 1, 4, 5, 9, 10, 23, 24, len(good) - 1, len(good)):
                self.refused(good[:at] + [byte] + good[at:])

    def test_a_pages_text_is_not_that_of_rules(self):
        self.refused(page_of("  p a"))
        self.assertEqual(ask_last(("page", FIRST_RULES)), -1)


class AtFirst(unittest.TestCase):
    ROLES = {"h1": "heading", "h2": "heading", "h3": "heading", "p": "text", "th": "head"}
    PLACES = {"row": ["  table ta"], "cell": ["  table ta", "    row ro"], "th": ["  table ta", "    row ro"],
              "item": ["  list li"], "page": []}

    def lines_of(self, kind, words):
        before = self.PLACES.get(kind, [])
        if kind == "page":
            return ["page x" + words], 0
        return ["page top"] + before + ["  " * (len(before) + 1) + kind + " x" + words], len(before) + 1

    def text_of(self, kind, words):
        """A page with a box of this kind, if there may be with something in it, and boxes that are named."""
        lines, depth = self.lines_of(kind, words)
        inside = {"table": "row", "list": "item", "row": "cell"}.get(kind, "p")
        lines.append(f'{"  " * (depth + 1)}{inside} y "Inside"')
        return page_of(*lines, '  p za "By this"', '  p zb "Hinted"')

    def test_roles(self):
        for kind in KINDS:
            level = int(kind[1]) if kind in ("h1", "h2", "h3") else 0
            self.assertEqual(ask_last(("page", self.text_of(kind, "")), ("role", "x")),
                             (self.ROLES.get(kind, kind), level, 0, 1 if kind == "check" else 0))

    def test_sources(self):
        every = {kind: ["by", "label"] for kind in ("page", "part", "list", "table", "live", "modal", "image")}
        every.update({kind: ["by", "label", "text", "kids"] for kind in ("h1", "h2", "h3", "check")})
        every.update({kind: ["by", "label", "text", "kids", "hint"] for kind in ("link", "button")})
        every.update({"p": ["text"], "field": ["by", "label", "hint"], "item": ["by", "label", "text"], "row": [],
                      "cell": ["text"], "th": ["label", "text", "kids"]})
        words = {"text": ' "Own"', "label": ' label "Label"', "by": " by za", "hint": " hint zb", "kids": ""}
        names = {"by": (1, "By this"), "label": (2, "Label"), "text": (3, "Own"), "kids": (4, "Inside"),
                 "hint": (5, "Hinted")}
        for kind in KINDS:
            for count in range(5):
                for kept in itertools.combinations(("text", "label", "by", "hint"), count):
                    given = [source for source in every[kind] if source in kept or source == "kids"]
                    if kind in ("h1", "h2", "h3", "check", "th", "link", "button"):
                        expected = names[given[0]]
                    else:
                        given = [source for source in given if source != "kids"]
                        expected = names[given[0]] if given else (0, "")
                    text = self.text_of(kind, "".join(words[part] for part in kept))
                    self.assertEqual(ask_last(("page", text), ("name", "x")), expected, text)

    def test_hints_where_nothing_is_in_a_box(self):
        for kind, expected in (("link", (5, "Hinted")), ("button", (5, "Hinted")), ("field", (5, "Hinted")),
                               ("check", (0, "")), ("h1", (0, "")), ("image", (0, "")), ("part", (0, ""))):
            text = page_of(f"  {kind} x hint zb", '  p zb "Hinted"')
            self.assertEqual(ask_last(("page", text), ("name", "x")), expected)

    def test_whole(self):
        whole = ("h1", "h2", "h3", "link", "button", "check", "th", "image")
        for kind in KINDS:
            said = ask_last(("page", self.text_of(kind, "")), ("said", "y"))
            self.assertEqual(said == -6, kind in whole, kind)

    def test_the_same_as_their_text(self):
        for kind in KINDS:
            for words in ("", ' "Own"', ' label "Label"', ' by za', ' hint zb', ' "Own" label "Label" by za hint zb off'):
                text = self.text_of(kind, words)
                asked = [("name", "x"), ("role", "x"), ("hint", "x"), ("said", "x"), ("said", "y"), ("size",)]
                other = [("rules", "".join(f"{kind} o\n" for kind in KINDS))]
                self.assertEqual(ask(("page", text), *asked)[1:],
                                 ask(("page", text), *other, ("rules", FIRST_RULES), *asked)[3:])


class Kept(unittest.TestCase):
    def test_rules_hold_from_now_on(self):
        text = page_of('  p a "Text" label "Label"')
        self.assertEqual(ask(("page", text), ("said", "a"), ("rules", rules_with(p="para from label")), ("said", "a"),
                             ("rules", rules_with(p="para whole from hint")), ("said", "a"), ("said", "top")),
                         [2, 'text "Text"', 8, 'para "Label" text "Text"', 9, "para", "page"])

    def test_rules_stay_over_a_new_page(self):
        rules = rules_with(p="para from label", page="top")
        self.assertEqual(ask(("rules", rules), ("role", "top"), ("page", page_of('  p a "T" label "L"')), ("said", "a"),
                             ("page", page_of('page b label "B"', '  p a label "M"')), ("said", "a"), ("said", "b")),
                         [8, ("top", 0, 0, 0), 2, 'para "L" text "T"', 2, 'para "M"', "top"])

    def test_the_state_stays_over_new_rules(self):
        text = page_of("  check a", "  button b press hide:c", "  p c")
        self.assertEqual(ask(("page", text), ("press", "a"), ("press", "b"), ("rules", rules_with(check="tick")),
                             ("said", "a"), ("said", "c"), ("press", "a")),
                         [4, (0, 1), (1, 1), 7, "tick on", -6, (1, 0)])

    def test_the_page_stays_over_new_rules(self):
        self.assertEqual(ask(("page", page_of("  p a")), ("rules", FIRST_RULES), ("role", "a")),
                         [2, 8, ("text", 0, 0, 0)])


if __name__ == "__main__":
    unittest.main()

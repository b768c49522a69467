"""The document's own example, whole, call by call."""

import unittest

from helper import ask, page_of

EXAMPLE = page_of(
    'page top',
    '  h1 title "Sign in"',
    '  field name label "Your name" hint help',
    '  p help "As on your card"',
    '  check stay "Stay here"',
    '  button more "More" press flip:extra',
    '  part extra hidden',
    '    link away "Leave"',
)

LINE = (
    (("page", EXAMPLE), 8),
    (("name", "title"), (3, "Sign in")),
    (("hint", "name"), ("As on your card", "")),
    (("said", "name"), 'field "Your name" hint "As on your card"'),
    (("said", "stay"), 'check "Stay here" not on'),
    (("press", "stay"), (1, 1)),
    (("role", "stay"), ("check", 0, 0, 2)),
    (("label", "more", "More things"), ""),
    (("name", "more"), (2, "More things")),
    (("source", 5, "name"), "As on your card"),
    (("users", "help"), []),
    (("find", "Sign in"), ["title"]),
    (("said", "away"), -6),
    (("size",), (6, 1, 125)),
)

ROW_AT_FIRST = [
    ("top", "page"),
    ("title", 'heading 1 "Sign in"'),
    ("name", 'field "Your name" hint "As on your card"'),
    ("help", 'text "As on your card"'),
    ("stay", 'check "Stay here" not on'),
    ("more", 'button "More"'),
]


class Example(unittest.TestCase):
    def test_call_by_call(self):
        for count in range(1, len(LINE) + 1):
            given = ask(*[call for call, answer in LINE[:count]])
            self.assertEqual(given[-1], LINE[count - 1][1], LINE[count - 1][0])
            self.assertEqual(given, [answer for call, answer in LINE[:count]])

    def test_its_row(self):
        self.assertEqual(ask(("page", EXAMPLE), ("row",)), [8, ROW_AT_FIRST])
        row = ROW_AT_FIRST[:4] + [("stay", 'check "Stay here" on'), ("more", 'button "More things"')]
        self.assertEqual(ask(*[call for call, answer in LINE], ("row",))[-1], row)
        self.assertEqual(sum(len(said) for ident, said in row), 125)

    def test_size_ahead_of_the_label(self):
        self.assertEqual(ask(("page", EXAMPLE), ("size",), ("press", "stay"), ("size",)),
                         [8, (6, 1, 122), (1, 1), (6, 1, 118)])

    def test_size_with_the_label_in_the_text(self):
        labelled = EXAMPLE.replace('button more "More"', 'button more "More" label "More things"')
        self.assertEqual(ask(("page", labelled), ("name", "more"), ("press", "stay"), ("size",)),
                         [8, (2, "More things"), (1, 1), (6, 1, 125)])

    def test_more_is_pressed_and_pressed_again(self):
        self.assertEqual(
            ask(("page", EXAMPLE), ("press", "more"), ("said", "away"), ("row",), ("size",), ("press", "more"),
                ("said", "away"), ("said", "extra"), ("row",)),
            [8, (0, 0), 'link "Leave"', ROW_AT_FIRST + [("extra", "part"), ("away", 'link "Leave"')],
             (8, 2, 4 + 19 + 40 + 22 + 24 + 13 + 4 + 12), (1, 0), -6, -6, ROW_AT_FIRST])


if __name__ == "__main__":
    unittest.main()

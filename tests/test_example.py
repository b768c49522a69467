"""The document's own example, as far as its calls are here."""

import unittest

from helper import ask, page_of

EXAMPLE = page_of(
    'page top',
    '  h1 title "Sign in"',
    '  field name label "Your name" hint help',
    '  p help "As on your card"',
    '  check stay "Stay here"',
    '  button more "More" press flip:extra',
    '  part extra hidden',
    '    link away "Leave"',
)


class Example(unittest.TestCase):
    def test_the_line_of_calls(self):
        self.assertEqual(
            ask(("page", EXAMPLE), ("name", "title"), ("hint", "name"), ("said", "name"), ("said", "stay"),
                ("press", "stay"), ("role", "stay"), ("name", "more"), ("said", "away"), ("size",)),
            [8, (3, "Sign in"), ("As on your card", ""), 'field "Your name" hint "As on your card"',
             'check "Stay here" not on', (1, 1), ("check", 0, 0, 2), (3, "More"), -6, (6, 1, 118)])

    def test_size_with_the_label_that_the_example_gives(self):
        labelled = EXAMPLE.replace('button more "More"', 'button more "More" label "More things"')
        self.assertEqual(ask(("page", labelled), ("name", "more"), ("press", "stay"), ("size",)),
                         [8, (2, "More things"), (1, 1), (6, 1, 125)])

    def test_more_is_pressed_and_pressed_again(self):
        self.assertEqual(
            ask(("page", EXAMPLE), ("press", "more"), ("said", "away"), ("size",), ("press", "more"),
                ("said", "away"), ("said", "extra")),
            [8, (0, 0), 'link "Leave"', (8, 2, 4 + 19 + 40 + 22 + 24 + 13 + 4 + 12), (1, 0), -6, -6])


if __name__ == "__main__":
    unittest.main()

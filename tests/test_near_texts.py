"""Promises 1 and 2: texts that are nearly a page's or nearly those of rules, one byte away from good ones.

What a line may be is told once more here, as patterns, so that every byte of the good texts can be tried.
"""

import re
import unittest

from helper import FIRST_RULES, KINDS, page_of
from saidrow.pages import answers

ID = r"(?!(?:label|by|hint|hidden|off|on|order|press)(?![a-z]))[a-z]{1,6}"
SAYING = r'"(?=[^"]{1,20}")[A-Za-z0-9]+(?: [A-Za-z0-9]+)*"'
BOX = re.compile(
    rf'((?:  ){{0,5}})({"|".join(KINDS)}) ({ID})(?: {SAYING})?(?: label {SAYING})?(?: by ({ID}(?: {ID}){{0,2}}))?'
    rf'(?: hint ({ID}))?( hidden)?(?: off)?( on)?(?: order [1-9])?'
    rf'(?: press ((?:show|hide|flip):{ID}(?: (?:show|hide|flip):{ID}){{0,2}}))?')
RULE = re.compile(r"([a-z0-9]+) (?!(?:focus|whole|from)(?![a-z]))[a-z]{1,8}(?: focus)?( whole)?"
                  r"(?: from ((?:by|label|text|kids|hint)(?: (?:by|label|text|kids|hint))*))?")
ONLY_IN = {"row": "table", "cell": "row", "th": "row", "item": "list"}
BYTES = [0, 9, 10, 13, 32, 33, 34, 39, 48, 49, 57, 58, 63, 65, 90, 97, 98, 122, 128, 160, 228, 255]

PAGES = (
    page_of("page top"),
    page_of('page top "T x" off', "  table a", "    row b hidden", "      th c", "      cell d", "        list e",
            "          item f", "  p g"),
    page_of("  check ab label \"A bc\" by top ab z hint z off on order 7 press show:z hide:ab flip:top", '  p z "12"'),
    page_of('  link a "12345678901234567890" press flip:a', "  part b by a b", "    modal c", "  button d hidden"),
)


def lines_of(text):
    return text[:-1].split("\n") if text.endswith("\n") else None


def page_count(text):
    """How many boxes a page's text has, or -1."""
    lines = lines_of(text)
    if lines is None or len(lines) > 16:
        return -1
    found = [BOX.fullmatch(line) for line in lines]
    if None in found:
        return -1
    idents = [match[3] for match in found]
    around = []
    for at, match in enumerate(found):
        blanks, kind, ident, by, hint, hidden, on, acts = match.groups()
        depth = len(blanks) // 2
        by = by.split(" ") if by else []
        named = by + ([hint] if hint else []) + [act.split(":")[1] for act in (acts or "").split(" ") if act]
        if not set(named) <= set(idents) or len(set(by)) < len(by) or idents.count(ident) > 1:
            return -1
        if (on and kind != "check") or (acts and kind not in ("link", "button", "check")):
            return -1
        if (at == 0) != (kind == "page") or (at == 0) != (depth == 0) or (at == 0 and hidden) or depth > len(around):
            return -1
        around = around[:depth]
        home = around[-1] if around else None
        if ONLY_IN[kind] != home if kind in ONLY_IN else home in ("table", "row", "list"):
            return -1
        around.append(kind)
    return len(lines)


def whole_count(text):
    """How many rules of a text of rules are said whole, or -1."""
    lines = lines_of(text)
    if lines is None or len(lines) != 19:
        return -1
    found = [RULE.fullmatch(line) for line in lines]
    if None in found or [match[1] for match in found] != KINDS:
        return -1
    for match in found:
        sources = match[3].split(" ") if match[3] else []
        if len(set(sources)) < len(sources):
            return -1
    return sum(1 for match in found if match[2])


def near(data):
    """Texts that have one byte less, more or other, or two neighbours changed over."""
    for at in range(len(data) + 1):
        yield data[:at] + data[at + 1:]
        yield data[:at] + data[at:at + 1] + data[at:]
        yield data[:at] + data[at + 1:at + 2] + data[at:at + 1] + data[at + 2:]
        for byte in BYTES:
            yield data[:at] + [byte] + data[at:]
            yield data[:at] + [byte] + data[at + 1:]


def near_in_lines(text):
    """Texts in which a line is left out, told twice, or changed over with the next."""
    lines = text.splitlines(keepends=True)
    for at in range(len(lines)):
        yield list("".join(lines[:at] + lines[at + 1:]).encode())
        yield list("".join(lines[:at + 1] + lines[at:]).encode())
        yield list("".join(lines[:at] + lines[at + 1:at + 2] + lines[at:at + 1] + lines[at + 2:]).encode())


def near_in_words(text):
    """Texts in which a word is left out, told twice, or changed over with the next."""
    words = re.split("([ \n]+)", text)
    for at in range(0, len(words) - 2, 2):
        yield list("".join(words[:at] + words[at + 2:]).encode())
        yield list("".join(words[:at] + words[at:at + 1] + [" "] + words[at:]).encode())
        yield list("".join(words[:at] + [words[at + 2], words[at + 1], words[at]] + words[at + 3:]).encode())


class Near(unittest.TestCase):
    def compare(self, call, count, text):
        good = list(text.encode())
        tried = [good] + list(near(good)) + list(near_in_lines(text)) + list(near_in_words(text))
        for data in tried:
            expected = count(bytes(data).decode("latin-1"))
            self.assertEqual(answers([call, len(data)] + data), [1, expected], bytes(data))

    def test_pages(self):
        for text in PAGES:
            self.assertGreater(page_count(text), 0)
            self.compare(0, page_count, text)

    def test_rules(self):
        for text in (FIRST_RULES.replace("row row", "row r focus whole from hint kids by"),
                     "".join(f"{kind} abcdefgh whole\n" for kind in KINDS)):
            self.assertGreater(whole_count(text), 0)
            self.compare(1, whole_count, text)


if __name__ == "__main__":
    unittest.main()

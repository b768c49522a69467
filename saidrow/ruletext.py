"""Rules: one for each kind, and how they're read from their text.

Whether a kind takes the focus is checked, but not kept: nothing that's answered hangs on it.
"""

from saidrow.kinds import KINDS, SOURCES
from saidrow.texts import SMALL_LETTERS, is_made_of, lines_of

LONGEST_ROLE = 8
NO_ROLES = ("focus", "whole", "from")

RULES_AT_FIRST = (
    "page page from by label\n"
    "part part from by label\n"
    "h1 heading whole from by label text kids\n"
    "h2 heading whole from by label text kids\n"
    "h3 heading whole from by label text kids\n"
    "p text from text\n"
    "link link focus whole from by label text kids hint\n"
    "button button focus whole from by label text kids hint\n"
    "field field focus from by label hint\n"
    "check check focus whole from by label text kids\n"
    "list list from by label\n"
    "item item from by label text\n"
    "table table from by label\n"
    "row row\n"
    "cell cell from text\n"
    "th head whole from label text kids\n"
    "image image whole from by label\n"
    "live live from by label\n"
    "modal modal from by label\n"
)


class Rule:
    def __init__(self, role, whole, sources):
        self.role = role
        self.whole = whole
        self.sources = sources


# A dict from kinds to their rules; None if the text is not that of rules.
def read_rules(text):
    lines = lines_of(text)
    if lines is None or len(lines) != len(KINDS):
        return None
    rules = {}
    for kind, line in zip(KINDS, lines):
        rule = read_rule(kind, line)
        if rule is None:
            return None
        rules[kind] = rule
    return rules


def read_rule(kind, line):
    words = line.split(" ")
    if len(words) < 2 or words[0] != kind or not is_role(words[1]):
        return None
    rest = words[2:]
    if rest[:1] == ["focus"]:
        rest = rest[1:]
    whole = rest[:1] == ["whole"]
    if whole:
        rest = rest[1:]
    if rest != [] and (rest[0] != "from" or not are_sources(rest[1:])):
        return None
    return Rule(words[1], whole, rest[1:])


def is_role(word):
    return len(word) <= LONGEST_ROLE and is_made_of(word, SMALL_LETTERS) and word not in NO_ROLES


def are_sources(words):
    return words != [] and len(set(words)) == len(words) and all([word in SOURCES for word in words])

"""Lines of calls as words, and their answers as words: what every test here is written in."""

from saidrow.pages import answers

CALLS = {"page": 0, "rules": 1, "press": 2, "name": 3, "role": 4, "hint": 5, "said": 6, "row": 7, "find": 8,
         "source": 9, "label": 10, "users": 11, "size": 12}

# n: a number; t: a text with its length ahead; l: a list of texts; p: a list of pairs of texts.
ANSWERS = {"page": "n", "rules": "n", "press": "nn", "name": "nt", "role": "tnnn", "hint": "tt", "said": "t",
           "row": "p", "find": "l", "source": "t", "label": "t", "users": "l", "size": "nnn"}

KINDS = ("page part h1 h2 h3 p link button field check list item table row cell th image live "
         "modal").split()

FIRST_RULES = """\
page page from by label
part part from by label
h1 heading whole from by label text kids
h2 heading whole from by label text kids
h3 heading whole from by label text kids
p text from text
link link focus whole from by label text kids hint
button button focus whole from by label text kids hint
field field focus from by label hint
check check focus whole from by label text kids
list list from by label
item item from by label text
table table from by label
row row
cell cell from text
th head whole from label text kids
image image whole from by label
live live from by label
modal modal from by label
"""


def rules_with(**lines):
    """The rules at first, with other words behind the kinds that are named."""
    rows = []
    for row in FIRST_RULES.splitlines():
        kind = row.split(" ")[0]
        rows.append(f"{kind} {lines[kind]}" if kind in lines else row)
    return "".join(row + "\n" for row in rows)


def page_of(*lines):
    """A page's text: each line ended, and the page's own box ahead if the first line isn't one."""
    if not lines or not lines[0].startswith("page "):
        lines = ("page top",) + lines
    return "".join(line + "\n" for line in lines)


def numbers_of_call(call):
    """Whole numbers stand as they are, texts with their lengths ahead."""
    numbers = [CALLS[call[0]]]
    for part in call[1:]:
        if isinstance(part, int):
            numbers.append(part)
        else:
            data = list(part) if isinstance(part, (list, bytes)) else list(part.encode("latin-1"))
            numbers += [len(data)] + data
    return numbers


def raw(numbers):
    """Answers call by call; checks what holds for every list that is handed in."""
    handed = list(numbers)
    given = answers(handed)
    assert handed == numbers, "the list handed in was changed"
    assert type(given) is list and all(type(number) is int for number in given), given
    assert answers(handed) == given, "a second time it answered something else"
    parts = []
    at = 0
    while at < len(given):
        end = at + 1 + given[at]
        assert given[at] >= 1 and end <= len(given), given
        parts.append(given[at + 1:end])
        at = end
    return parts


def take(numbers):
    """The first of the numbers, which are taken away one by one; no refusal stands among others."""
    assert numbers and numbers[0] >= 0, numbers
    return numbers.pop(0)


def take_text(numbers):
    return bytes([take(numbers) for _ in range(take(numbers))]).decode("latin-1")


TAKES = {
    "n": take,
    "t": take_text,
    "l": lambda numbers: [take_text(numbers) for _ in range(take(numbers))],
    "p": lambda numbers: [(take_text(numbers), take_text(numbers)) for _ in range(take(numbers))],
}


def decoded(word, numbers):
    if numbers[0] < 0:
        assert len(numbers) == 1, numbers
        return numbers[0]
    left = list(numbers)
    found = [TAKES[sign](left) for sign in ANSWERS[word]]
    assert left == [], numbers
    return found[0] if len(found) == 1 else tuple(found)


def ask(*calls):
    """The answers of a line of calls, each call a tuple of its word, and its numbers and texts as they're laid."""
    numbers = [number for call in calls for number in numbers_of_call(call)]
    assert 1 <= len(calls) <= 40 and len(numbers) <= 17000, "no such line is handed in"
    parts = raw(numbers)
    assert len(parts) == len(calls), parts
    return [decoded(call[0], part) for call, part in zip(calls, parts)]


def ask_last(*calls):
    return ask(*calls)[-1]

"""Pages: boxes in order, and how they're read from a page's text.

A box's number in the order of focus is checked, but not kept: nothing that's answered hangs on it.
"""

from saidrow.kinds import KINDS
from saidrow.texts import QUOTE, SMALL_LETTERS, is_made_of, is_quoted_saying, lines_of

MOST_BOXES = 16
DEEPEST = 5
LONGEST_ID = 6
MOST_LABELLERS = 3
MOST_ACTS = 3

# In the order in which a line tells them. None of them is an id, so each begins a part of its line.
KEY_WORDS = ("label", "by", "hint", "hidden", "off", "on", "order", "press")
HEAD = "head"

ORDERS = ("1", "2", "3", "4", "5", "6", "7", "8", "9")
KINDS_WITH_ACTS = ("link", "button", "check")
DEEDS = ("show", "hide", "flip")

# Each of these kinds stands only in the kind beside it, and nothing else stands there.
HOMES = {"row": "table", "cell": "row", "th": "row", "item": "list"}
CHOOSY_KINDS = ("table", "row", "list")


# What a box hasn't is an empty text or an empty list here; no saying and no id is empty.
class Box:
    def __init__(self, depth, parts):
        head = parts[HEAD]
        self.depth = depth
        self.kind = head[0]
        self.ident = head[1]
        self.text = head[2][1:-1] if len(head) == 3 else ""
        self.label = parts["label"][0][1:-1] if "label" in parts else ""
        self.by = parts.get("by", [])
        self.hint = parts["hint"][0] if "hint" in parts else ""
        self.hidden = "hidden" in parts
        self.off = "off" in parts
        self.on = "on" in parts
        self.acts = [read_act(word) for word in parts.get("press", [])]


# A box's place is its index in boxes; parents tells the place of the box in which each stands.
class Page:
    def __init__(self, boxes):
        self.boxes = boxes
        self.places = dict([(box.ident, place) for place, box in enumerate(boxes)])
        self.parents = [find_parent(boxes, place) for place in range(len(boxes))]


def read_act(word):
    sides = word.partition(":")
    return (sides[0], sides[2])


# -1 for the first box, which stands in none.
def find_parent(boxes, place):
    parent = place - 1
    while parent >= 0 and boxes[parent].depth >= boxes[place].depth:
        parent -= 1
    return parent


def places_around(page, place):
    around = []
    place = page.parents[place]
    while place >= 0:
        around.append(place)
        place = page.parents[place]
    return around


# None if the text is not a page's.
def read_page(text):
    lines = lines_of(text)
    if lines is None or not 1 <= len(lines) <= MOST_BOXES:
        return None
    boxes = []
    for line in lines:
        box = read_box(line)
        if box is None:
            return None
        boxes.append(box)
    page = Page(boxes)
    return page if is_page(page) else None


def read_box(line):
    blanks = len(line) - len(line.lstrip(" "))
    if blanks % 2 != 0 or blanks > 2 * DEEPEST:
        return None
    parts = divide(split_words(line[blanks:]))
    if parts is None or not is_head(parts[HEAD]):
        return None
    kind = parts[HEAD][0]
    if not all([is_part(key, parts[key], kind) for key in KEY_WORDS if key in parts]):
        return None
    return Box(blanks // 2, parts)


# A blank too many leaves an empty word, which no part takes.
def split_words(line):
    words = []
    start = 0
    while start <= len(line):
        end = find_word_end(line, start)
        words.append(line[start:end])
        start = end + 1
    return words


# The blanks between a quote and the next one belong to the word.
def find_word_end(line, start):
    last = start
    if line[start:start + 1] == QUOTE:
        last = line.find(QUOTE, start + 1)
    end = line.find(" ", last) if last >= 0 else -1
    return end if end >= 0 else len(line)


# The words behind each key word, and ahead of the first; None if key words are out of order or told twice.
def divide(words):
    parts = {HEAD: []}
    key = HEAD
    earliest = 0
    for word in words:
        if word in KEY_WORDS:
            key = word
            if KEY_WORDS.index(key) < earliest:
                return None
            earliest = KEY_WORDS.index(key) + 1
            parts[key] = []
        else:
            parts[key].append(word)
    return parts


def is_head(words):
    if not 2 <= len(words) <= 3:
        return False
    return words[0] in KINDS and is_ident(words[1]) and (len(words) == 2 or is_quoted_saying(words[2]))


def is_ident(word):
    return len(word) <= LONGEST_ID and is_made_of(word, SMALL_LETTERS) and word not in KEY_WORDS


# Whether the ids that a part names are boxes is known only when all lines are read.
def is_part(key, words, kind):
    if key == "label":
        return len(words) == 1 and is_quoted_saying(words[0])
    if key == "by":
        return are_idents(words) and len(words) <= MOST_LABELLERS and len(set(words)) == len(words)
    if key == "hint":
        return are_idents(words) and len(words) == 1
    if key == "order":
        return len(words) == 1 and words[0] in ORDERS
    if key == "press":
        return kind in KINDS_WITH_ACTS and are_acts(words)
    if key == "on":
        return kind == "check" and words == []
    return words == []


def are_idents(words):
    return words != [] and all([is_ident(word) for word in words])


def are_acts(words):
    acts = [read_act(word) for word in words]
    return are_idents([act[1] for act in acts]) and len(acts) <= MOST_ACTS and all([act[0] in DEEDS for act in acts])


def is_page(page):
    boxes = page.boxes
    if len(page.places) < len(boxes) or not is_first(boxes[0]):
        return False
    if not all([names_boxes(page, box) for box in boxes]):
        return False
    return all([stands_right(page, place) for place in range(1, len(boxes))])


def is_first(box):
    return box.kind == "page" and box.depth == 0 and not box.hidden


def names_boxes(page, box):
    named = box.by + [act[1] for act in box.acts]
    if box.hint != "":
        named.append(box.hint)
    return all([ident in page.places for ident in named])


def stands_right(page, place):
    box = page.boxes[place]
    if box.kind == "page" or not 1 <= box.depth <= page.boxes[place - 1].depth + 1:
        return False
    home = page.boxes[page.parents[place]].kind
    if box.kind in HOMES:
        return HOMES[box.kind] == home
    return home not in CHOOSY_KINDS

"""Names: what each source gives, inner names, and where a name comes from."""

from saidrow.kinds import SOURCES
from saidrow.states import rule_of
from saidrow.texts import put_together

INNER_SOURCES = ("label", "text", "kids")


# The number of the source from which a name comes (0 if from none), and the name.
class Name:
    def __init__(self, number, text):
        self.number = number
        self.text = text


def comes_from(name, source):
    return name.number == SOURCES.index(source) + 1


def name_of(teller, place):
    inner = inner_names(teller)
    return first_given(teller, place, rule_of(teller, place).sources, inner)


# From the last box to the first: what stands in a box comes behind it, so its inner name is there already.
def inner_names(teller):
    inner = [""] * len(teller.page.boxes)
    for place in range(len(inner) - 1, -1, -1):
        sources = [source for source in rule_of(teller, place).sources if source in INNER_SOURCES]
        inner[place] = first_given(teller, place, sources, inner).text
    return inner


def first_given(teller, place, sources, inner):
    for source in sources:
        text = given(teller, place, source, inner)
        if text != "":
            return Name(SOURCES.index(source) + 1, text)
    return Name(0, "")


# What a source gives for a box's name, whether the box's kind has this source or not.
def given(teller, place, source, inner):
    box = teller.page.boxes[place]
    if source == "label":
        return box.label
    if source == "text":
        return box.text
    if source == "kids":
        return put_together([inner[kid] for kid in kids_shown(teller, place)])
    if source == "by":
        return put_together([inner[teller.page.places[ident]] for ident in box.by])
    return hint_given(teller, box, inner)


def kids_shown(teller, place):
    parents = teller.page.parents
    return [kid for kid in range(len(parents)) if parents[kid] == place and not teller.hidden[kid]]


def hint_given(teller, box, inner):
    return inner[teller.page.places[box.hint]] if box.hint != "" else ""


# The places of the boxes that are labelled by this one, and whose names come from there.
def users_of(teller, place):
    boxes = teller.page.boxes
    labelled = [other for other in range(len(boxes)) if boxes[place].ident in boxes[other].by]
    return [other for other in labelled if comes_from(name_of(teller, other), "by")]

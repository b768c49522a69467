"""States: which boxes are hidden, which checks are on, and what a press does to them."""

from saidrow.pagetext import places_around, read_page
from saidrow.ruletext import RULES_AT_FIRST, read_rules

PAGE_AT_FIRST = "page top\n"


# The object on which a line's calls are: hidden and on tell of each box, by its place, what's so now.
class Teller:
    def __init__(self):
        self.rules = read_rules(RULES_AT_FIRST)
        take_page(self, read_page(PAGE_AT_FIRST))


def take_page(teller, page):
    teller.page = page
    teller.hidden = [box.hidden for box in page.boxes]
    teller.on = [box.on for box in page.boxes]


def rule_of(teller, place):
    return teller.rules[teller.page.boxes[place].kind]


def is_visible(teller, place):
    return not any([teller.hidden[other] for other in [place] + places_around(teller.page, place)])


# None if there's no modal.
def find_modal(teller):
    modal = None
    for place, box in enumerate(teller.page.boxes):
        if box.kind == "modal" and is_visible(teller, place):
            modal = place
    return modal


def does_something(box):
    return box.kind == "check" or box.acts != []


def can_be_pressed(teller, place):
    box = teller.page.boxes[place]
    if not does_something(box) or box.off or not is_visible(teller, place):
        return False
    modal = find_modal(teller)
    return modal is None or modal in places_around(teller.page, place)


def press_box(teller, place):
    box = teller.page.boxes[place]
    if box.kind == "check":
        teller.on[place] = not teller.on[place]
    for act in box.acts:
        do_act(teller, act)


def do_act(teller, act):
    place = teller.page.places[act[1]]
    if act[0] == "flip":
        teller.hidden[place] = not teller.hidden[place]
    else:
        teller.hidden[place] = act[0] == "hide"

"""The calls on one object: read from one list of whole numbers, answered in another."""

from saidrow.kinds import HEADING_LEVELS
from saidrow.names import name_of
from saidrow.pagetext import read_page
from saidrow.ruletext import read_rules
from saidrow.sayings import hint_said, is_said_by_itself, places_in_row, said_of, text_besides
from saidrow.states import Teller, can_be_pressed, does_something, press_box, rule_of, take_page
from saidrow.texts import numbers_of, text_of

WRONG_TEXT = -1
NO_BOX = -3
DOES_NOTHING = -5
NOT_NOW = -6


def answer_page(teller, text):
    page = read_page(text)
    if page is None:
        return [WRONG_TEXT]
    take_page(teller, page)
    return [len(page.boxes)]


def answer_rules(teller, text):
    rules = read_rules(text)
    if rules is None:
        return [WRONG_TEXT]
    teller.rules = rules
    return [len([rule for rule in rules.values() if rule.whole])]


def answer_press(teller, place):
    if not does_something(teller.page.boxes[place]):
        return [DOES_NOTHING]
    if not can_be_pressed(teller, place):
        return [NOT_NOW]
    press_box(teller, place)
    return [teller.hidden.count(True), teller.on.count(True)]


def answer_name(teller, place):
    name = name_of(teller, place)
    return [name.number] + numbers_of(name.text)


def answer_role(teller, place):
    box = teller.page.boxes[place]
    level = HEADING_LEVELS.get(box.kind, 0)
    off = 1 if box.off else 0
    on = 0
    if box.kind == "check":
        on = 2 if teller.on[place] else 1
    return numbers_of(rule_of(teller, place).role) + [level, off, on]


def answer_hint(teller, place):
    return numbers_of(hint_said(teller, place)) + numbers_of(text_besides(teller, place))


def answer_said(teller, place):
    if not is_said_by_itself(teller, place):
        return [NOT_NOW]
    return numbers_of(said_of(teller, place))


def answer_size(teller):
    row = places_in_row(teller)
    unnamed = [place for place in row if name_of(teller, place).text == ""]
    return [len(row), len(unnamed), sum([len(said_of(teller, place)) for place in row])]


# Calls by their numbers: those of a text, those of a box (told by its id), and those of nothing.
TEXT_CALLS = {0: answer_page, 1: answer_rules}
BOX_CALLS = {2: answer_press, 3: answer_name, 4: answer_role, 5: answer_hint, 6: answer_said}
BARE_CALLS = {12: answer_size}


def answers(calls):
    teller = Teller()
    answered = []
    at = 0
    while at < len(calls):
        number = calls[at]
        at += 1
        if number in BARE_CALLS:
            answer = BARE_CALLS[number](teller)
        else:
            end = at + 1 + calls[at]
            answer = answer_with_text(teller, number, text_of(calls[at + 1:end]))
            at = end
        answered.append(len(answer))
        answered.extend(answer)
    return answered


def answer_with_text(teller, number, text):
    if number in TEXT_CALLS:
        return TEXT_CALLS[number](teller, text)
    answer_box = BOX_CALLS[number]
    place = teller.page.places.get(text)
    if place is None:
        return [NO_BOX]
    return answer_box(teller, place)

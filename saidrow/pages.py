"""The calls on one object: read from one list of whole numbers, answered in another."""

from saidrow.kinds import HEADING_LEVELS, SOURCES
from saidrow.names import given, inner_names, name_of, users_of
from saidrow.pagetext import read_page
from saidrow.reading import Reader, is_at_end, take_number, take_text
from saidrow.ruletext import read_rules
from saidrow.sayings import hint_said, is_said_by_itself, places_in_row, said_of, text_besides
from saidrow.states import Teller, can_be_pressed, does_something, press_box, rule_of, take_page
from saidrow.texts import is_saying, numbers_of

WRONG_TEXT = -1
NO_BOX = -3
DOES_NOTHING = -5
NO_SOURCE = -5
NOT_NOW = -6


def answer_page(teller, text):
    page = read_page(text)
    if page is None:
        return [WRONG_TEXT]
    take_page(teller, page)
    return [len(page.boxes)]


def answer_rules(teller, text):
    rules = read_rules(text)
    if rules is None:
        return [WRONG_TEXT]
    teller.rules = rules
    return [len([rule for rule in rules.values() if rule.whole])]


def answer_press(teller, place):
    if not does_something(teller.page.boxes[place]):
        return [DOES_NOTHING]
    if not can_be_pressed(teller, place):
        return [NOT_NOW]
    press_box(teller, place)
    return [teller.hidden.count(True), teller.on.count(True)]


def answer_name(teller, place):
    name = name_of(teller, place)
    return [name.number] + numbers_of(name.text)


def answer_role(teller, place):
    box = teller.page.boxes[place]
    level = HEADING_LEVELS.get(box.kind, 0)
    off = 1 if box.off else 0
    on = 0
    if box.kind == "check":
        on = 2 if teller.on[place] else 1
    return numbers_of(rule_of(teller, place).role) + [level, off, on]


def answer_hint(teller, place):
    return numbers_of(hint_said(teller, place)) + numbers_of(text_besides(teller, place))


def answer_said(teller, place):
    if not is_said_by_itself(teller, place):
        return [NOT_NOW]
    return numbers_of(said_of(teller, place))


def answer_row(teller):
    row = places_in_row(teller)
    answer = [len(row)]
    for place in row:
        answer.extend(numbers_of(teller.page.boxes[place].ident))
        answer.extend(numbers_of(said_of(teller, place)))
    return answer


def answer_find(teller, text):
    return idents_at(teller, [place for place in places_in_row(teller) if name_of(teller, place).text == text])


def answer_source(teller, place, k):
    if not 1 <= k <= len(SOURCES):
        return [NO_SOURCE]
    return numbers_of(given(teller, place, SOURCES[k - 1], inner_names(teller)))


def answer_label(teller, place, saying):
    if saying != "" and not is_saying(saying):
        return [WRONG_TEXT]
    box = teller.page.boxes[place]
    label_before = box.label
    box.label = saying
    return numbers_of(label_before)


def answer_users(teller, place):
    return idents_at(teller, users_of(teller, place))


def answer_size(teller):
    row = places_in_row(teller)
    unnamed = [place for place in row if name_of(teller, place).text == ""]
    return [len(row), len(unnamed), sum([len(said_of(teller, place)) for place in row])]


def idents_at(teller, places):
    answer = [len(places)]
    for place in places:
        answer.extend(numbers_of(teller.page.boxes[place].ident))
    return answer


# Calls by their numbers: those of nothing, those of a text, and those of a box (told by its id).
BARE_CALLS = {7: answer_row, 12: answer_size}
TEXT_CALLS = {0: answer_page, 1: answer_rules, 8: answer_find}
BOX_CALLS = {
    2: answer_press, 3: answer_name, 4: answer_role, 5: answer_hint, 6: answer_said, 11: answer_users,
}

# These two have something besides their box: source a number ahead of it, label a text behind it.
SOURCE = 9
LABEL = 10


def answers(calls):
    teller = Teller()
    reader = Reader(calls)
    answered = []
    while not is_at_end(reader):
        answer = answer_next(teller, reader)
        answered.append(len(answer))
        answered.extend(answer)
    return answered


def answer_next(teller, reader):
    number = take_number(reader)
    if number in BARE_CALLS:
        return BARE_CALLS[number](teller)
    if number in TEXT_CALLS:
        return TEXT_CALLS[number](teller, take_text(reader))
    return answer_of_box(teller, number, reader)


# All of the call is taken before anything is refused: the next call begins behind it.
def answer_of_box(teller, number, reader):
    k = take_number(reader) if number == SOURCE else 0
    place = teller.page.places.get(take_text(reader))
    saying = take_text(reader) if number == LABEL else ""
    if place is None:
        return [NO_BOX]
    if number == SOURCE:
        return answer_source(teller, place, k)
    if number == LABEL:
        return answer_label(teller, place, saying)
    return BOX_CALLS[number](teller, place)

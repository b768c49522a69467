"""What's said of a box, and which boxes are in the row that's said."""

from saidrow.kinds import HEADING_LEVELS
from saidrow.names import comes_from, hint_given, inner_names, name_of
from saidrow.pagetext import places_around
from saidrow.states import is_visible, rule_of
from saidrow.texts import in_quotes


def hint_said(teller, place):
    if comes_from(name_of(teller, place), "hint"):
        return ""
    return hint_given(teller, teller.page.boxes[place], inner_names(teller))


def text_besides(teller, place):
    if rule_of(teller, place).whole or comes_from(name_of(teller, place), "text"):
        return ""
    return teller.page.boxes[place].text


def is_said_by_itself(teller, place):
    if not is_visible(teller, place):
        return False
    return not any([rule_of(teller, other).whole for other in places_around(teller.page, place)])


def places_in_row(teller):
    return [place for place in range(len(teller.page.boxes)) if is_said_by_itself(teller, place)]


def said_of(teller, place):
    box = teller.page.boxes[place]
    words = [rule_of(teller, place).role]
    if box.kind in HEADING_LEVELS:
        words.append(str(HEADING_LEVELS[box.kind]))
    words.extend(words_if_something([], name_of(teller, place).text))
    if box.off:
        words.append("off")
    if box.kind == "check":
        words.append("on" if teller.on[place] else "not on")
    words.extend(words_if_something(["hint"], hint_said(teller, place)))
    words.extend(words_if_something(["text"], text_besides(teller, place)))
    return " ".join(words)


def words_if_something(ahead, text):
    return ahead + [in_quotes(text)] if text != "" else []

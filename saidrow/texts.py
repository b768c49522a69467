"""Texts: from bytes and to bytes, in lines, and the form of a saying."""

SMALL_LETTERS = "abcdefghijklmnopqrstuvwxyz"
WORD_SIGNS = "abcdefghijklmnopqrstuvwxyzABCDEFGHIJKLMNOPQRSTUVWXYZ0123456789"
OTHER_SIGNS = "\n \":"
QUOTE = "\""

# No page, rules, id or name has any other byte than those above. So one sign may stand for all the
# others: where it is, a text is refused or found nowhere.
UNKNOWN = "?"

LONGEST_SAYING = 20


def text_of(numbers):
    signs = dict([(ord(sign), sign) for sign in WORD_SIGNS + OTHER_SIGNS])
    return "".join([signs.get(number, UNKNOWN) for number in numbers])


def numbers_of(text):
    return [len(text)] + [ord(sign) for sign in text]


# None if the last line isn't ended: then something stands behind the last line feed.
def lines_of(text):
    lines = text.split("\n")
    if lines.pop() != "":
        return None
    return lines


def is_made_of(text, signs):
    return text != "" and all([sign in signs for sign in text])


def is_saying(text):
    return len(text) <= LONGEST_SAYING and all([is_made_of(word, WORD_SIGNS) for word in text.split(" ")])


def is_quoted_saying(word):
    return word.startswith(QUOTE) and word.endswith(QUOTE) and is_saying(word[1:-1])


def in_quotes(text):
    return QUOTE + text + QUOTE


# Of several names those that are nothing leave no blank behind.
def put_together(names):
    return " ".join([name for name in names if name != ""])

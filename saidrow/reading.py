"""Reading: how a call's whole numbers and texts are taken from the list of calls, one behind another."""

from saidrow.texts import text_of


# The numbers are only read; at tells which is the first that isn't taken yet.
class Reader:
    def __init__(self, numbers):
        self.numbers = numbers
        self.at = 0


def is_at_end(reader):
    return reader.at >= len(reader.numbers)


def take_number(reader):
    number = reader.numbers[reader.at]
    reader.at += 1
    return number


def take_text(reader):
    count = take_number(reader)
    start = reader.at
    reader.at = start + count
    return text_of(reader.numbers[start:reader.at])

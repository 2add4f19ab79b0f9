"""Webs and heaps written as rows of words and numbers, and read again."""

from twoforone.bounds import is_place_count
from twoforone.errors import NoText
from twoforone.heaps import are_stones, must_be_heap
from twoforone.webs import is_web, must_be_web

MOST_FIGURES = 3


def written(word, numbers):
    return " ".join([word] + [str(number) for number in numbers])


def shown(web, heap):
    must_be_web(web)
    must_be_heap(web, heap)
    ties = [written("tie", tie) for tie in web[1]]
    return "\n".join([written("web", [web[0]])] + ties + [written("heap", heap)])


def number_written(word):
    # By itself int would take blanks, signs and noughts ahead, too.
    if not 1 <= len(word) <= MOST_FIGURES or not all([sign in "0123456789" for sign in word]):
        return None
    if len(word) > 1 and word[0] == "0":
        return None
    return int(word)


def numbers_behind(word, row):
    words = row.split(" ")
    numbers = [number_written(part) for part in words[1:]]
    if words[0] != word or None in numbers:
        return None
    return tuple(numbers)


def many_read(row):
    numbers = numbers_behind("web", row)
    if numbers is None or len(numbers) != 1 or not is_place_count(numbers[0]):
        raise NoText(1)
    return numbers[0]


def read(text):
    if not isinstance(text, str):
        raise NoText(0)
    rows = text.split("\n")
    web = (many_read(rows[0]), ())
    for number, row in enumerate(rows[1:], start=2):
        heap = numbers_behind("heap", row)
        if heap is None:
            web = (web[0], web[1] + (numbers_behind("tie", row),))
            # A row that is no tie's stands there as None.
            if not is_web(web):
                raise NoText(number)
        elif not are_stones(web, heap):
            raise NoText(number)
        elif number < len(rows):
            raise NoText(number + 1)
        else:
            return (web, heap)
    raise NoText(len(rows) + 1)

"""A desk that keeps a web and a heap, is told deeds and questions as rows, and answers with texts."""

from twoforone.errors import NoHeap, NoRow, NoWeb
from twoforone.gets import most_at, reached
from twoforone.heaps import are_stones, steps_from, walked
from twoforone.kinds import web_for
from twoforone.needs import need
from twoforone.texts import number_written, shown
from twoforone.webs import far, must_be_place, tie_between, web_of

# How many numbers stand behind each word.
DEEDS = {
    "web": 1, "row": 1, "ring": 1, "cube": 1, "full": 1, "star": 1, "tie": 2, "cut": 2, "put": 2, "step": 2, "back": 0,
}
QUESTIONS = {"heap": 0, "ties": 0, "steps": 0, "far": 2, "most": 1, "reached": 0, "need": 1, "shown": 0}


def parsed(row):
    if not isinstance(row, str):
        raise NoRow()
    words = row.split(" ")
    numbers = [number_written(part) for part in words[1:]]
    wanted = DEEDS.get(words[0], QUESTIONS.get(words[0], -1))
    if None in numbers or len(numbers) != wanted:
        raise NoRow()
    return (words[0], numbers)


def bare(web):
    return (web, (0,) * web[0])


def tied(web, one, other):
    must_be_place(web, one)
    must_be_place(web, other)
    # Refused with how many ties there are, the place of the one added, where it is none or is there already.
    return web_of(web[0], list(web[1]) + [(one, other)])


def cut(web, one, other):
    must_be_place(web, one)
    must_be_place(web, other)
    gone = tie_between(one, other)
    if gone not in web[1]:
        raise NoWeb(len(web[1]))
    return (web[0], tuple([tie for tie in web[1] if tie != gone]))


def put(web, heap, place, stones):
    must_be_place(web, place)
    more = heap[:place] + (heap[place] + stones,) + heap[place + 1:]
    if not are_stones(web, more):
        raise NoHeap()
    return more


def step_done(web, heap, one, other):
    must_be_place(web, one)
    must_be_place(web, other)
    return walked(web, heap, [(one, other)])[0]


def after(web, heap, word, numbers):
    # Nothing is changed here, so a deed that is refused leaves the desk as it was.
    if word == "web":
        return bare(web_of(numbers[0], []))
    if word == "tie":
        return (tied(web, numbers[0], numbers[1]), heap)
    if word == "cut":
        return (cut(web, numbers[0], numbers[1]), heap)
    if word == "put":
        return (web, put(web, heap, numbers[0], numbers[1]))
    if word == "step":
        return (web, step_done(web, heap, numbers[0], numbers[1]))
    return bare(web_for((word, numbers[0])))


def listed(words):
    return " ".join(words) if len(words) > 0 else "none"


def paired(pairs, sign):
    return listed([str(pair[0]) + sign + str(pair[1]) for pair in pairs])


def answer(web, heap, word, numbers):
    if word == "heap":
        return listed([str(stones) for stones in heap])
    if word == "ties":
        return paired(web[1], "-")
    if word == "steps":
        return paired(steps_from(web, heap), ">")
    if word == "far":
        told = far(web, numbers[0], numbers[1])
        return "none" if told is None else str(told)
    if word == "most":
        return str(most_at(web, heap, numbers[0]))
    if word == "reached":
        return listed([str(place) for place in reached(web, heap)])
    if word == "need":
        return str(need(web, numbers[0], 1))
    return shown(web, heap).replace("\n", " ; ")


class Desk:
    def __init__(self):
        self.web = (1, ())
        self.heap = (0,)
        self.past = []

    def say(self, row):
        told = parsed(row)
        word = told[0]
        if word in QUESTIONS:
            return answer(self.web, self.heap, word, told[1])
        if word == "back":
            self.go_back()
        else:
            self.go_on(after(self.web, self.heap, word, told[1]))
        return "ok"

    def go_on(self, state):
        self.past.append((self.web, self.heap))
        self.web = state[0]
        self.heap = state[1]

    def go_back(self):
        if len(self.past) == 0:
            raise NoRow()
        state = self.past.pop()
        self.web = state[0]
        self.heap = state[1]

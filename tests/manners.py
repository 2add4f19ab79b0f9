"""What every question of the interface has in common: how it refuses, and that it keeps nothing."""

import unittest
from copy import deepcopy

from tests.things import NO_WEBS, WHATEVER, no_counts, no_heaps, no_places, no_wholes, refusal
from twoforone.errors import NoHeap, NoNumber, NoPlace, NoSteps, NoTally, NoWeb


class Role:
    """What an argument is: which things are none, given the web of the question, and how they are refused."""

    def __init__(self, refused_with, none_such, fields=()):
        self.refused_with = refused_with
        self.none_such = none_such
        self.fields = fields

    def is_refusal(self, error):
        return type(error) is self.refused_with and all(
            type(getattr(error, name)) is int and getattr(error, name) == value for name, value in self.fields)


def no_tallies(web):
    found = [thing for thing in WHATEVER if thing != () and thing != ((0, 1, 1),)]
    found += [((0, 1, 0),), ((0, 1, 301),), ((0, 1, True),), ((0, 1, -1),), ((0, 0, 1),), ((0, web[0], 1),)]
    found += [((a, b, 1), (a, b, 1)) for a, b in web[1]] + [((b, a, 1), (a, b, 1)) for a, b in web[1]]
    return found + [[(a, b, 1)] for a, b in web[1]] + [((a, b, 1, 1),) for a, b in web[1]]


def no_lists(web):
    return [thing for thing in WHATEVER if not isinstance(thing, list)]


WEB = Role(NoWeb, lambda web: NO_WEBS, (("at", -1),))
HEAP = Role(NoHeap, no_heaps)
PLACE = Role(NoPlace, lambda web: no_places(web[0]))
TALLY = Role(NoTally, no_tallies)
STEPS = Role(NoSteps, no_lists, (("at", -1),))
THING = Role(None, None)


def number(least, most):
    return Role(NoNumber, lambda web: no_wholes(least, most))


class Question:
    """A function, the roles of its arguments, some that it answers, and some that it refuses for a later reason.

    web_of tells, of what is handed in, the web that heaps and places are looked at with.
    """

    def __init__(self, call, roles, samples, late=(), web_of=lambda handed: handed[0]):
        self.call = call
        self.roles = roles
        self.samples = samples
        self.late = late
        self.web_of = web_of

    def handed(self):
        return list(self.samples) + [handed for handed, _ in self.late]

    def answer(self, handed):
        return self.call(*deepcopy(handed))


def swapped(handed, at, thing):
    return handed[:at] + (thing,) + handed[at + 1:]


def few(things):
    return things[::max(1, len(things) // 12)]


def spoil(thing):
    """Changes whatever can be changed in a thing."""
    if isinstance(thing, (list, tuple)):
        for part in thing:
            spoil(part)
    if isinstance(thing, dict):
        thing.clear()
    if isinstance(thing, list):
        thing.reverse()
        thing.append("spoilt")


class Manners(unittest.TestCase):
    questions = ()

    def check_refused(self, question, role, handed):
        error = refusal(question.call, *handed)
        self.assertTrue(role.is_refusal(error), (question.call.__name__, handed, error))

    def test_each_bad_argument_is_refused_with_its_own_class(self):
        for question in self.questions:
            for handed in question.handed():
                for at, role in enumerate(question.roles):
                    if role is not THING:
                        for bad in role.none_such(question.web_of(handed)):
                            self.check_refused(question, role, swapped(handed, at, bad))

    def test_the_left_one_goes_ahead(self):
        for question in self.questions:
            for handed in question.handed():
                web = question.web_of(handed)
                for at, role in enumerate(question.roles):
                    for behind in range(at + 1, len(question.roles)):
                        if role is THING:
                            continue
                        other = question.roles[behind]
                        worse = WHATEVER if other is THING else other.none_such(web)
                        for bad in few(role.none_such(web)):
                            for bad_too in few(worse):
                                both = swapped(swapped(handed, at, bad), behind, bad_too)
                                self.check_refused(question, role, both)

    def test_all_bad_at_once(self):
        for question in self.questions:
            for bad in (None, "0", [], {}, True):
                if question.roles[0] is not THING:
                    self.check_refused(question, question.roles[0], (bad,) * len(question.roles))

    def test_later_refusals(self):
        for question in self.questions:
            for handed, role in question.late:
                self.check_refused(question, role, handed)

    def test_whatever_is_handed_in(self):
        for question in self.questions:
            for at, role in enumerate(question.roles):
                if role is THING:
                    for handed in question.samples:
                        for thing in WHATEVER:
                            before = repr(thing)
                            self.assertIn(
                                type(question.call(*swapped(handed, at, thing))), (bool, int, tuple, type(None)))
                            self.assertEqual(repr(thing), before)

    def test_nothing_handed_in_is_changed(self):
        for question in self.questions:
            for handed in question.handed():
                before = repr(handed)
                try:
                    question.call(*handed)
                except ValueError:
                    pass
                self.assertEqual(repr(handed), before, question.call.__name__)

    def test_bad_things_handed_in_are_not_changed(self):
        for question in self.questions:
            for handed in question.handed():
                for at, role in enumerate(question.roles):
                    if role is not THING:
                        for bad in role.none_such(question.web_of(handed)):
                            before = repr(bad)
                            refusal(question.call, *swapped(handed, at, bad))
                            self.assertEqual(repr(bad), before, question.call.__name__)

    def test_what_was_told_is_the_askers_own(self):
        for question in self.questions:
            for handed in question.samples:
                first = question.answer(handed)
                wanted = repr(first)
                spoil(first)
                second = question.answer(handed)
                self.assertEqual(repr(second), wanted, question.call.__name__)

    def test_what_is_done_to_what_was_handed_in_changes_no_answer(self):
        for question in self.questions:
            for handed in question.samples:
                given = deepcopy(handed)
                told = question.call(*given)
                wanted = repr(told)
                spoil(given)
                self.assertEqual(repr(told), wanted, question.call.__name__)
                spoil(told)
                self.assertEqual(repr(question.answer(handed)), wanted, question.call.__name__)

    def test_the_same_question_has_the_same_answer(self):
        asked = [(question, handed) for question in self.questions for handed in question.samples]
        first = [repr(question.answer(handed)) for question, handed in asked]
        again = [repr(question.answer(handed)) for question, handed in reversed(asked)]
        self.assertEqual(first, again[::-1])

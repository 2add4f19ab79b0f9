"""What the document promises over the whole program."""

import importlib
import inspect
import os
import subprocess
import sys
import unittest
from pathlib import Path

from tests import (
    test_bars, test_cubes, test_gets, test_heaps, test_needs, test_rings, test_shows, test_spread, test_tallies,
    test_texts,
    test_trees, test_webs,
)
from tests.manners import WEB, spoil
from tests.things import NO_WEBS, WHATEVER, refusal, webs_up_to
from twoforone.bars import bar_for, far_weights, is_bar
from twoforone.carries import carries, carry_holds, tree_steps
from twoforone.cubes import cube_steps, cube_worst
from twoforone.desk import Desk
from twoforone.errors import NoWeb, StoneError
from twoforone.gets import closed_for, closed_holds, reach
from twoforone.heaps import brings, is_heap, walked
from twoforone.kinds import kind_good, web_for
from twoforone.needs import fails, worst
from twoforone.rings import ring_steps, ring_worst
from twoforone.shows import is_branch, ring_show, show_bound, tree_show
from twoforone.spread import first_spread, is_spread, row_spread
from twoforone.tallies import in_order, is_tally, leaned, tally_of
from twoforone.texts import read, shown
from twoforone.trees import tree_worst
from twoforone.webs import is_tree, is_web, pieces, web_of

INTERFACE = {
    "webs": {"is_web": "thing", "web_of": "many, things", "tied_to": "web, place", "far": "web, one, other",
             "pieces": "web",
             "is_joined": "web", "is_tree": "web"},
    "kinds": {"kind_good": "thing", "web_for": "kind"},
    "heaps": {"is_heap": "web, thing", "steps_from": "web, heap", "walked": "web, heap, steps",
              "steps_wrong": "web, heap, thing", "brings": "web, heap, place, many, thing"},
    "tallies": {"is_tally": "web, thing", "tally_of": "web, steps", "left_by": "web, heap, tally",
                "ring_in": "web, tally",
                "leaned": "web, tally", "in_order": "web, heap, tally"},
    "bars": {"worth_at": "web, heap, place", "at_most": "web, heap, place", "is_bar": "web, heap, place, thing",
             "far_weights": "web, place", "bar_for": "web, heap, place"},
    "trees": {"heights": "web, place", "ways": "web, place", "tree_need": "web, place, times",
              "tree_worst": "web, place, times"},
    "carries": {"carries": "web, heap, place", "tree_steps": "web, heap, place",
                "carry_holds": "web, heap, place, thing"},
    "gets": {"most_at": "web, heap, place", "reach": "web, heap, place, many", "reached": "web, heap",
             "closed_holds": "web, heap, place, many, thing", "closed_for": "web, heap, place, many"},
    "rings": {"ring_need": "n", "ring_worst": "n, place", "sweeps": "n, heap, place", "ring_steps": "n, heap, place",
              "sweep_holds": "n, heap, place, thing"},
    "cubes": {"cube_need": "d", "cube_worst": "d, place", "cube_steps": "d, heap, place"},
    "needs": {"fails": "web, place, m, stones", "need": "web, place, m", "worst": "web, place, m", "need_all": "web, m",
              "fail_many": "web, place, m"},
    "shows": {"is_branch": "web, place, thing", "branch_sum": "branch", "show_bound": "web, place, thing",
              "tree_show": "web, place", "ring_show": "n, place"},
    "spread": {"is_spread": "web, heap", "spread_need": "web", "first_spread": "web", "marks_bound": "web, thing",
               "row_spread": "n"},
    "texts": {"shown": "web, heap", "read": "text"},
}
# Those that have tests of their own for refusals and for what is handed in.
BY_THEMSELVES = {"is_web", "web_of", "kind_good", "web_for", "branch_sum", "read"}
QUESTIONS = [question for case in (
    test_webs.WebManners, test_heaps.HeapManners, test_tallies.TallyManners, test_bars.BarManners,
    test_trees.TreeManners,
    test_gets.GetManners, test_rings.RingManners, test_cubes.CubeManners, test_needs.NeedManners,
    test_shows.ShowManners,
    test_spread.SpreadManners, test_texts.TextManners,
) for question in case.questions]


def answers():
    """What is told, or how it is refused, to all questions that the tests of the modules ask."""
    told = []
    for question in QUESTIONS:
        for handed in question.handed():
            try:
                told.append(question.answer(handed))
            except StoneError as error:
                told.append((type(error).__name__, sorted(vars(error).items())))
    return told


class Interface(unittest.TestCase):
    def test_names_and_arguments(self):
        for name, functions in INTERFACE.items():
            module = importlib.import_module("twoforone." + name)
            for function, arguments in functions.items():
                with self.subTest(module=name, function=function):
                    told = inspect.signature(getattr(module, function)).parameters
                    self.assertEqual(", ".join(told), arguments)

    def test_the_desk(self):
        self.assertEqual(list(inspect.signature(Desk).parameters), [])
        self.assertEqual(list(inspect.signature(Desk().say).parameters), ["row"])

    def test_each_function_is_asked_for_its_manners(self):
        wanted = {function for functions in INTERFACE.values() for function in functions}
        asked = {question.call.__name__ for question in QUESTIONS}
        self.assertEqual(asked | BY_THEMSELVES, wanted)
        for question in QUESTIONS:
            arguments = list(inspect.signature(question.call).parameters)
            self.assertEqual(len(question.roles), len(arguments))
            self.assertIs(question.roles[0] is WEB, arguments[0] == "web")


class NoWebs(unittest.TestCase):
    def test_ahead_of_all_else(self):
        things = [None, True, -1, (301, 0, 0), "x", [], {}, 0]
        for question in QUESTIONS:
            if question.roles[0] is WEB:
                for web in NO_WEBS:
                    for thing in things:
                        error = refusal(question.call, web, *[thing] * (len(question.roles) - 1))
                        self.assertIs(type(error), NoWeb, question.call.__name__)
                        self.assertEqual(repr(error.at), "-1")


class Alone(unittest.TestCase):
    def test_whatever_was_asked_in_between(self):
        first = [repr(told) for told in answers()]
        for told in answers():
            spoil(told)
        for thing in WHATEVER:
            for call in (is_web, kind_good):
                call(thing)
            for call, before in ((web_for, ()), (read, ()), (Desk().say, ()), (web_of, (3,)),
                                 (walked, ((1, ()), (0,)))):
                try:
                    call(*before, *([thing] if call is not web_of else [[thing]]))
                except StoneError:
                    pass
        self.assertEqual([repr(told) for told in reversed(answers())], first[::-1])

    def test_in_another_run(self):
        # Python shuffles its sets of texts anew each run; nothing may hang on that.
        root = str(Path(__file__).resolve().parent.parent)
        code = "from tests.test_whole import answers; print(repr(answers()))"
        for seed in ("1", "2"):
            surroundings = dict(os.environ, PYTHONHASHSEED=seed, PYTHONPATH=root, PYTHONDONTWRITEBYTECODE="1")
            done = subprocess.run(
                [sys.executable, "-c", code], cwd=root, env=surroundings, capture_output=True, text=True, check=True)
            self.assertEqual(done.stdout.strip(), repr(answers()))


class HandedInAgain(unittest.TestCase):
    def test_webs_and_heaps(self):
        for kind in (("row", 4), ("ring", 5), ("cube", 2), ("full", 4), ("star", 3), ("tree", (None, 0, 0, 1))):
            web = web_for(kind)
            self.assertIs(is_web(web), True)
            self.assertEqual(web_of(web[0], list(web[1])), web)
            heap = first_spread(web)
            self.assertIs(is_spread(web, heap), True)
            self.assertEqual(read(shown(web, heap)), (web, heap))
            for piece in pieces(web):
                for place in piece:
                    for failing in worst(web, place, 1) + fails(web, place, 2, 2):
                        self.assertIs(is_heap(web, failing), True)
                        self.assertEqual(read(shown(web, failing)), (web, failing))
                    told = worst(web, place, 1)[0]
                    if sum(told) <= 12:
                        closed = closed_for(web, told, place, 1)
                        self.assertIs(closed_holds(web, told, place, 1, closed), True)
                        self.assertIs(reach(web, told, place, 1), None)

    def test_steps_and_tallies(self):
        for web in (web_for(("row", 4)), web_for(("ring", 4)), web_for(("star", 3))):
            heap = (0, 0, 8, 0)
            for place in range(4):
                steps = reach(web, heap, place, 1)
                self.assertIs(brings(web, heap, place, 1, steps), True)
                tally = tally_of(web, steps)
                self.assertIs(is_tally(web, tally), True)
                self.assertIs(brings(web, heap, place, 1, in_order(web, heap, leaned(web, tally))), True)
                for behind in walked(web, heap, steps):
                    self.assertIs(is_heap(web, behind), True)

    def test_papers(self):
        for web in webs_up_to(4):
            for place in range(web[0]):
                heap = (0,) * web[0]
                self.assertEqual(bar_for(web, heap, place), far_weights(web, place))
                self.assertIs(is_bar(web, heap, place, bar_for(web, heap, place)), True)
                if is_tree(web):
                    heap = tree_worst(web, place, 2)
                    self.assertIs(carry_holds(web, heap, place, carries(web, heap, place)), True)
                    self.assertIs(brings(web, heap, place, 1, tree_steps(web, heap, place)), True)
                    self.assertIsInstance(show_bound(web, place, tree_show(web, place)), int)
        for n in range(3, 9):
            web = web_for(("ring", n))
            for place in range(n):
                for share, branch in ring_show(n, place):
                    self.assertIs(is_branch(web, place, branch), True)
                heap = ring_worst(n, place)
                self.assertIs(ring_steps(n, heap, place), None)
                more = tuple(stones + 1 for stones in heap)
                self.assertEqual(ring_steps(n, more, place), [])
            self.assertIs(is_spread(web, row_spread(n)), True)
        for d in range(4):
            web = web_for(("cube", d))
            for place in range(web[0]):
                heap = cube_worst(d, place)
                more = heap[:-1] + (heap[-1] + 1,)
                self.assertIs(brings(web, more, place, 1, cube_steps(d, more, place)), True)


if __name__ == "__main__":
    unittest.main()

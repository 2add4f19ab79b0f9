import unittest

from tests import manners
from tests.manners import HEAP, PLACE, Question, Role, number
from tests.things import CUBE, all_heaps, no_wholes, refusal, slow_closure
from twoforone.cubes import cube_need, cube_steps, cube_worst
from twoforone.errors import NoHeap, NoNumber, NoPlace
from twoforone.heaps import brings, is_heap

WEBS = {0: (1, ()), 1: (2, ((0, 1),)), 2: (4, ((0, 1), (0, 2), (1, 3), (2, 3))), 3: CUBE}


class Need(unittest.TestCase):
    def test_each_size(self):
        self.assertEqual([cube_need(d) for d in range(4)], [1, 2, 4, 8])

    def test_worst_written_out(self):
        for d, place, told in (
            (0, 0, (0,)), (1, 0, (0, 1)), (1, 1, (1, 0)), (2, 0, (0, 0, 0, 3)), (2, 1, (0, 0, 3, 0)),
            (2, 3, (3, 0, 0, 0)),
            (3, 0, (0, 0, 0, 0, 0, 0, 0, 7)), (3, 5, (0, 0, 7, 0, 0, 0, 0, 0)), (3, 7, (7, 0, 0, 0, 0, 0, 0, 0)),
        ):
            self.assertEqual(cube_worst(d, place), told)

    def test_worst_of_each_place(self):
        for d in range(4):
            many = 2 ** d
            for place in range(many):
                told = cube_worst(d, place)
                self.assertIs(is_heap(WEBS[d], told), True)
                wanted = tuple(many - 1 if bin(at ^ place).count("1") == d and d else 0 for at in range(many))
                self.assertEqual(repr(told), repr(wanted))
                self.assertEqual({other[place] for other in slow_closure(WEBS[d], told)}, {0})

    def test_no_number_goes_ahead(self):
        for d in no_wholes(0, 3):
            self.assertIs(type(refusal(cube_need, d)), NoNumber)
            for place in (0, 8, -1, None, True):
                self.assertIs(type(refusal(cube_worst, d, place)), NoNumber)
                for heap in ((8, 0), None, (-1,), (301,)):
                    self.assertIs(type(refusal(cube_steps, d, heap, place)), NoNumber)


class Steps(unittest.TestCase):
    def check_steps(self, d, heap, place):
        told = cube_steps(d, heap, place)
        self.assertIs(type(told), list)
        if heap[place]:
            self.assertEqual(told, [])
        self.assertIs(brings(WEBS[d], heap, place, 1, told), True, (heap, place))

    def test_small_cubes_of_every_place(self):
        for d, most in ((0, 4), (1, 6), (2, 6)):
            for stones in range(2 ** d, most + 1):
                for heap in all_heaps(2 ** d, stones):
                    for place in range(2 ** d):
                        self.check_steps(d, heap, place)

    def test_just_enough_stones_in_the_great_cube(self):
        for heap in all_heaps(8, 8)[::41]:
            for place in range(8):
                self.check_steps(3, heap, place)
        for place in range(8):
            for other in range(8):
                self.check_steps(3, tuple(8 if at == other else 0 for at in range(8)), place)

    def test_more_stones(self):
        for heap in ((300,), (0,) * 7 + (300,), (0, 1, 1, 1, 1, 1, 1, 294), (0, 0, 0, 1, 0, 9, 40, 3),
                     (38, 37) + (0,) * 6):
            d = {1: 0, 8: 3}[len(heap)]
            for place in range(len(heap)):
                self.check_steps(d, heap, place)

    def test_a_stone_that_lies_there_behind_many(self):
        # The stones that are looked at first are not all.
        self.assertEqual(cube_steps(3, (9, 0, 0, 0, 0, 0, 0, 1), 7), [])
        self.assertEqual(cube_steps(2, (9, 9, 9, 1), 3), [])
        self.assertEqual(cube_steps(0, (5,), 0), [])

    def test_fewer_stones(self):
        for d in range(4):
            many = 2 ** d
            for stones in range(many):
                for heap in all_heaps(many, stones)[::9]:
                    for place in range(many):
                        self.assertIs(type(refusal(cube_steps, d, heap, place)), NoNumber)
                    for place in (-1, many, None, True, False, "0"):
                        self.assertIs(type(refusal(cube_steps, d, heap, place)), NoPlace)
            self.assertIs(type(refusal(cube_steps, d, (0,) * (many + 1), None)), NoHeap)
        # Too few, though a stone lies there.
        self.assertIs(type(refusal(cube_steps, 3, (7,) + (0,) * 7, 0)), NoNumber)
        self.assertEqual(cube_steps(3, (8,) + (0,) * 7, 0), [])


def of_digits(handed):
    return WEBS[handed[0]]


class CubeManners(manners.Manners):
    questions = (
        Question(cube_need, (number(0, 3),), [(0,), (3,)], web_of=of_digits),
        Question(cube_worst, (number(0, 3), PLACE), [(0, 0), (1, 1), (3, 6)], web_of=of_digits),
        Question(
            cube_steps, (number(0, 3), HEAP, PLACE), [(0, (1,), 0), (2, (0, 4, 0, 1), 2), (3, (0,) * 7 + (9,), 0)],
            [((2, (0, 3, 0, 0), 2), Role(NoNumber, None))], web_of=of_digits),
    )


if __name__ == "__main__":
    unittest.main()

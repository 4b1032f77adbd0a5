"""The refusal -3, and how calls and answers stand in their lists."""

import contextlib
import io
import unittest

from tests.helper import (back, becomes, copy, last, look_at, mark, meets, opens, read, run, same, size, split, type_of,
                          unify, written)
from typegraph.graph import answers

HUGE = 10 ** 18

EVERY_CALL = [
    read("(-> a (List a))"), read("(-> Int b)"), mark(), unify(2, 5), meets(0, 2), same(0, 4), type_of(2), size(2),
    opens(2), back(), copy(2, [0]), copy(2, [3, 3]), becomes(2, 5), mark(), read("(a b)"), read("a" * 700),
    unify(HUGE, -HUGE), unify(0, 2), opens(-1), copy(0, [HUGE]), becomes(0, -HUGE), type_of(8), back(), back(),
]


def flat(calls):
    return [number for call in calls for number in call]


class NoNode(unittest.TestCase):
    def test_numbers_that_are_no_node(self):
        start = [read("(F a)"), read("b")]
        for number in [-1, -2, -3, 3, 4, 99, 100, HUGE, -HUGE, HUGE - 1]:
            for call in [unify(number, 0), unify(0, number), unify(number, number), meets(number, 1), meets(1, number),
                         meets(number, number), same(number, 2), same(2, number), same(number, number),
                         type_of(number), size(number), opens(number), copy(number), copy(number, [0]),
                         copy(1, [number]), copy(1, [0, number]), becomes(number, 0), becomes(0, number),
                         becomes(number, number)]:
                given = run(*(start + [call] + look_at(3)))
                self.assertEqual(given[2], [-3], call)
                self.assertEqual(given[3:], run(*(start + look_at(3)))[2:])

    def test_the_first_and_the_last_node(self):
        given = run(read("(F a)"), size(0), size(1), size(2), read("b"), size(2))
        self.assertEqual(given[1:], [[1], [2], [-3], [2, 2], [1]])

    def test_a_graph_without_nodes(self):
        given = run(unify(0, 0), meets(0, 0), same(0, 0), type_of(0), size(0), opens(0), copy(0), copy(0, [0]),
                    becomes(0, 0))
        self.assertEqual(given, [[-3]] * 9)

    def test_the_largest_node(self):
        given = run(read("(F" + " a" * 9 + ")"), *([read("A")] * 98 + [type_of(99), type_of(100), unify(0, 99), size(1)]))
        self.assertEqual(given[-4:], [written(1, "A"), [-3], [1], [10]])

    def test_no_node_is_told_ahead_of_all_else(self):
        wide = read("(F" + " a" * 200 + ")")
        self.assertEqual(run(wide, type_of(2), type_of(1), type_of(-1))[1:], [[-3], [-6], [-3]])


class Lists(unittest.TestCase):
    def test_how_answers_stand(self):
        calls = [0, 5, 40, 70, 32, 97, 41, 4, 1, 1, 0, 1, 5, 7, 10, 2, 0, 0, 3, 0, 1, 0, 0, 5, 1]
        self.assertEqual(answers(calls), [2, 1, 0, 7, 2, 40, 70, 32, 118, 48, 41, 1, -9, 1, -3, 1, -5, 1, 1, 1, 0,
                                          1, -1, 1, 2])

    def test_how_opens_copy_becomes_mark_and_back_stand(self):
        calls = [0, 7, 40, 70, 32, 97, 32, 98, 41, 9, 6, 2, 7, 2, 0, 7, 2, 2, 1, 0, 7, 2, 1, 0, 8, 2, 5, 10, 6, 3, 9,
                 7, 2, 1, 9, 10, 10, 6, 0]
        self.assertEqual(answers(calls), [3, 2, 0, 1, 1, 1, 3, 2, 0, 1, 1, 5, 1, 2, 1, 7, 1, 1, 1, 3, 1, -3, 1, 1,
                                          1, -3, 1, 3, 1, -5, 2, 1, 0])

    def test_a_call_alone(self):
        self.assertEqual(answers([9]), [1, 1])
        self.assertEqual(answers([6, 0]), [1, -3])
        self.assertEqual(answers([7, 0, 0]), [1, -3])
        self.assertEqual(answers([7, 0, 2, 7, 0]), [1, -3])
        self.assertEqual(answers([8, 10, 9]), [1, -3])
        self.assertEqual(answers([0, 0]), [1, -1])
        self.assertEqual(answers([10]), [1, -5])
        self.assertEqual(answers([3, 0, 10]), [1, -3])

    def test_numbers_of_a_text_are_no_calls(self):
        self.assertEqual(answers([0, 3, 10, 10, 97, 0, 1, 10, 5, 0]), [2, 0, 0, 1, -1, 1, 1])

    def test_numbers_of_a_row_are_no_calls(self):
        self.assertEqual(answers([0, 1, 97, 7, 0, 3, 9, 10, 9, 10, 7, 0, 2, 0, 0, 6, 0]),
                         [2, 0, 0, 1, -3, 1, -5, 1, 0, 2, 1, 0])

    def test_the_list_is_not_changed(self):
        calls = flat(EVERY_CALL)
        before = list(calls)
        given = answers(calls)
        self.assertEqual(calls, before)
        calls.clear()
        self.assertEqual(given, answers(before))

    def test_nothing_is_kept(self):
        first = [0, 1, 97, 0, 1, 98, 1, 0, 1, 5, 1]
        second = [5, 0, 10, 0, 1, 97, 4, 0, 5, 1]
        self.assertEqual(answers(second), [1, -3, 1, -5, 2, 0, 0, 3, 1, 118, 48, 1, -3])
        for time in range(3):
            given = answers(first)
            self.assertEqual(given, [2, 0, 0, 2, 1, 1, 1, 1, 1, 1])
            given.append(7)
            self.assertEqual(answers(second), [1, -3, 1, -5, 2, 0, 0, 3, 1, 118, 48, 1, -3])

    def test_marks_and_copies_are_not_kept(self):
        first = flat([read("(F a)"), mark(), copy(1), mark(), unify(0, 2), opens(1)])
        second = flat([back(), size(0), mark(), read("a"), copy(0), back(), back(), size(0)])
        for time in range(3):
            self.assertEqual(split(answers(first)), [[1, 0], [1], [3], [2], [1], [1, 0]])
            self.assertEqual(split(answers(second)), [[-5], [-3], [1], [0, 0], [1], [0], [-5], [-3]])

    def test_whole_numbers_in_a_list(self):
        calls = flat([read("(F a A)"), unify(0, 1), meets(0, 2), same(0, 1), same(0, 2)] + EVERY_CALL)
        given = answers(calls)
        self.assertIs(type(given), list)
        self.assertEqual({type(number) for number in given}, {int})

    def test_400_calls_and_a_long_list(self):
        text = "(F" + " a" * 298 + ")"
        calls = read(text) * 27 + unify(1, 2) + size(3) * 370
        self.assertLessEqual(len(calls), 17000)
        self.assertEqual(len(split(answers(calls))), 398)
        self.assertEqual(answers(size(3) * 400), [1, -3] * 400)
        calls = read("(F a b)") + copy(2, [0, 1] * 500) * 16 + becomes(0, 2) * 300
        self.assertLessEqual(len(calls), 17000)
        self.assertEqual(answers(calls), [3, 2, 0, 1] + [1, 2] * 16 + [1, 1] * 300)
        self.assertEqual(last(read([32] * 10000), read("a")), [0, 0])

    def test_it_prints_nothing(self):
        out = io.StringIO()
        with contextlib.redirect_stdout(out), contextlib.redirect_stderr(out):
            answers(flat(EVERY_CALL))
        self.assertEqual(out.getvalue(), "")


if __name__ == "__main__":
    unittest.main()

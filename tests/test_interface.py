"""Point 11 while there are no marks, the refusal -3, and how calls and answers stand in their lists."""

import contextlib
import io
import unittest

from tests.helper import back, last, look_at, meets, read, run, same, size, split, type_of, unify, written
from typegraph.graph import answers

HUGE = 10 ** 18


class NoNode(unittest.TestCase):
    def test_numbers_that_are_no_node(self):
        start = [read("(F a)"), read("b")]
        for number in [-1, -2, -3, 3, 4, 99, 100, HUGE, -HUGE, HUGE - 1]:
            for call in [unify(number, 0), unify(0, number), unify(number, number), meets(number, 1), meets(1, number),
                         meets(number, number), same(number, 2), same(2, number), same(number, number),
                         type_of(number), size(number)]:
                given = run(*(start + [call] + look_at(3)))
                self.assertEqual(given[2], [-3], call)
                self.assertEqual(given[3:], run(*(start + look_at(3)))[2:])

    def test_the_first_and_the_last_node(self):
        given = run(read("(F a)"), size(0), size(1), size(2), read("b"), size(2))
        self.assertEqual(given[1:], [[1], [2], [-3], [2, 2], [1]])

    def test_a_graph_without_nodes(self):
        given = run(unify(0, 0), meets(0, 0), same(0, 0), type_of(0), size(0))
        self.assertEqual(given, [[-3]] * 5)

    def test_the_largest_node(self):
        given = run(read("(F" + " a" * 9 + ")"), *([read("A")] * 98 + [type_of(99), type_of(100), unify(0, 99), size(1)]))
        self.assertEqual(given[-4:], [written(1, "A"), [-3], [1], [10]])

    def test_no_node_is_told_ahead_of_all_else(self):
        wide = read("(F" + " a" * 200 + ")")
        self.assertEqual(run(wide, type_of(2), type_of(1), type_of(-1))[1:], [[-3], [-6], [-3]])


class NoMark(unittest.TestCase):
    def test_back(self):
        self.assertEqual(run(back()), [[-5]])
        self.assertEqual(run(back(), back(), read("a"), back(), size(0)), [[-5], [-5], [0, 0], [-5], [1]])

    def test_the_graph_is_as_it_was(self):
        start = [read("(F a (G b))"), read("(F c d)"), unify(0, 4)]
        self.assertEqual(run(*(start + [back()] + look_at(7)))[4:], run(*(start + look_at(7)))[3:])


class Lists(unittest.TestCase):
    def test_how_answers_stand(self):
        calls = [0, 5, 40, 70, 32, 97, 41, 4, 1, 1, 0, 1, 5, 7, 10, 2, 0, 0, 3, 0, 1, 0, 0, 5, 1]
        self.assertEqual(answers(calls), [2, 1, 0, 7, 2, 40, 70, 32, 118, 48, 41, 1, -9, 1, -3, 1, -5, 1, 1, 1, 0,
                                          1, -1, 1, 2])

    def test_a_call_alone(self):
        self.assertEqual(answers([0, 0]), [1, -1])
        self.assertEqual(answers([10]), [1, -5])
        self.assertEqual(answers([3, 0, 10]), [1, -3])

    def test_numbers_of_a_text_are_no_calls(self):
        self.assertEqual(answers([0, 3, 10, 10, 97, 0, 1, 10, 5, 0]), [2, 0, 0, 1, -1, 1, 1])

    def test_the_list_is_not_changed(self):
        calls = []
        for call in [read("(-> a (List a))"), read("(-> Int b)"), unify(2, 5), meets(0, 2), same(0, 4), type_of(2),
                     size(2), back(), read("(a b)"), read("a" * 700), unify(HUGE, -HUGE), unify(0, 2)]:
            calls += call
        before = list(calls)
        given = answers(calls)
        self.assertEqual(calls, before)
        calls.clear()
        self.assertEqual(given, answers(before))

    def test_nothing_is_kept(self):
        first = [0, 1, 97, 0, 1, 98, 1, 0, 1, 5, 1]
        second = [5, 0, 10, 0, 1, 97, 4, 0, 5, 1]
        self.assertEqual(answers(second), [1, -3, 1, -5, 2, 0, 0, 3, 1, 118, 48, 1, -3])
        for time in range(3):
            given = answers(first)
            self.assertEqual(given, [2, 0, 0, 2, 1, 1, 1, 1, 1, 1])
            given.append(7)
            self.assertEqual(answers(second), [1, -3, 1, -5, 2, 0, 0, 3, 1, 118, 48, 1, -3])

    def test_whole_numbers_in_a_list(self):
        calls = []
        for call in [read("(F a A)"), unify(0, 1), meets(0, 2), same(0, 1), same(0, 2), type_of(2), size(2), back()]:
            calls += call
        given = answers(calls)
        self.assertIs(type(given), list)
        self.assertEqual({type(number) for number in given}, {int})

    def test_400_calls_and_a_long_list(self):
        text = "(F" + " a" * 298 + ")"
        calls = read(text) * 27 + unify(1, 2) + size(3) * 370
        self.assertLessEqual(len(calls), 17000)
        self.assertEqual(len(split(answers(calls))), 398)
        self.assertEqual(answers(size(3) * 400), [1, -3] * 400)
        self.assertEqual(last(read([32] * 10000), read("a")), [0, 0])

    def test_it_prints_nothing(self):
        out = io.StringIO()
        with contextlib.redirect_stdout(out), contextlib.redirect_stderr(out):
            answers(read("(F a)") + type_of(1) + unify(0, 1) + back())
        self.assertEqual(out.getvalue(), "")


if __name__ == "__main__":
    unittest.main()

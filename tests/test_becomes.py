"""Point 9, and what the document says of types that become others."""

import unittest

from tests.helper import becomes, copy, last, look_at, read, run, same, size, tower, type_of, unify

HUGE = 10 ** 18


def both_ways(text):
    """The text is a type of two arguments: the answers of becomes for the first and the second, and the other way."""
    top = last(read(text))[0]
    pair = "(Q x y)"
    return run(read(text), read(pair), unify(top, top + 3), becomes(top + 1, top + 2), becomes(top + 2, top + 1))[3:]


class Apart(unittest.TestCase):
    """The two types have no variable in common."""

    def check(self, first, second, there, back):
        a = last(read(first))[0]
        b = last(read(first), read(second))[0]
        given = run(read(first), read(second), becomes(a, b), becomes(b, a))[2:]
        self.assertEqual(given, [[there], [back]], (first, second))

    def test_a_variable_becomes_any_type(self):
        self.check("a", "b", 1, 1)
        for text in ["A", "(F a)", "(F A)", "(F (G a b) c)", "->", "(-> a a)"]:
            self.check("a", text, 1, 0)

    def test_like_types(self):
        for text in ["A", "->", "(F A)", "(F a b)", "(F a a)", "(F (G a) a A)"]:
            self.check(text, text, 1, 1)
        self.check("(F a b)", "(F b a)", 1, 1)

    def test_the_same_variable_at_two_places(self):
        self.check("(F a a)", "(F A A)", 1, 0)
        self.check("(F a a)", "(F A B)", 0, 0)
        self.check("(F a a)", "(F b b)", 1, 1)
        self.check("(F a a)", "(F b c)", 0, 1)
        self.check("(F a a)", "(F b B)", 0, 0)
        self.check("(F a (G a))", "(F A (G A))", 1, 0)
        self.check("(F a (G a))", "(F (G A) (G A))", 0, 0)
        self.check("(F a b a b)", "(F A B A B)", 1, 0)
        self.check("(F a b a b)", "(F A B B A)", 0, 0)

    def test_the_same_type_though_its_nodes_are_not_one(self):
        self.check("(F a a)", "(F (G A) (G A))", 1, 0)
        self.check("(F a a)", "(F (G b) (G b))", 1, 0)
        self.check("(F a a a)", "(F (G b A) (G b A) (G b A))", 1, 0)
        self.check("(F a a)", "(F (G b) (G c))", 0, 0)
        self.check("(F a a a)", "(F (G b A) (G b A) (G b B))", 0, 0)

    def test_a_constant_and_a_variable(self):
        self.check("A", "a", 0, 1)
        self.check("(F A)", "(F a)", 0, 1)
        self.check("(F a A)", "(F A a)", 0, 0)

    def test_unlike_constants(self):
        for first, second in [("A", "B"), ("(F a)", "(G a)"), ("(F A)", "(F B)"), ("(F a A)", "(F a B)"), ("A", "->"),
                              ("(F (G a))", "(F (H a))"), ("A", "A'"), ("(-> a b)", "(F a b)")]:
            self.check(first, second, 0, 0)

    def test_another_number_of_arguments(self):
        for first, second in [("F", "(F a)"), ("(F a)", "(F a b)"), ("(F a)", "(F a a)"), ("(F A)", "(F A A)"),
                              ("(G (F a) b)", "(G (F a b) c)"), ("(-> a b)", "(-> a b c)")]:
            self.check(first, second, 0, 0)

    def test_further_in(self):
        self.check("(-> a (List b))", "(-> (P c d) (List (List c)))", 1, 0)
        self.check("(F (G a b) (G b a))", "(F (G A B) (G B A))", 1, 0)
        self.check("(F (G a b) (G b a))", "(F (G A B) (G A B))", 0, 0)


class Together(unittest.TestCase):
    """The two types have variables in common."""

    def test_a_node_becomes_itself(self):
        given = run(read("(F a A)"), becomes(0, 0), becomes(1, 1), becomes(2, 2), becomes(0, 2), becomes(2, 0))
        self.assertEqual(given[1:], [[1], [1], [1], [1], [0]])

    def test_a_variable_that_stands_in_both_may_become_something_else(self):
        for text, expected in [
                ("(Q a (F a))", [[1], [0]]), ("(Q (F a) (F (F a)))", [[1], [0]]), ("(Q (F a b) (F b a))", [[1], [1]]),
                ("(Q (F a b) (F b b))", [[1], [0]]), ("(Q (F a b) (F b A))", [[1], [0]]), ("(Q a A)", [[1], [0]]),
                ("(Q (F a b c) (F b c a))", [[1], [1]]), ("(Q (F a b) (F (F a b) a))", [[1], [0]])]:
            self.assertEqual(both_ways(text), expected, text)

    def test_variables_of_the_other_stay(self):
        for text in ["(Q (F a A) (F A a))", "(Q (F a a) (F a b))", "(Q (F A) (F a))", "(Q (F a a) (F a A))",
                     "(Q (F a (G a)) (F a a))", "(Q (F a a) (F (G a) a))"]:
            self.assertEqual(both_ways(text)[0], [0], text)

    def test_after_unify(self):
        start = [read("(F a b)"), read("(F c c)"), read("A")]
        given = run(*(start + [becomes(2, 4), becomes(4, 2), unify(0, 1), becomes(4, 2), unify(3, 5), becomes(2, 4),
                               becomes(4, 2), unify(1, 5), becomes(4, 2)]))[3:]
        self.assertEqual(given, [[1], [0], [1], [1], [1], [1], [0], [1], [1]])

    def test_arguments_that_are_one_are_asked_for_the_same_type(self):
        # (F a a), with a made one with (G b), is to become types with two unlike or like G's
        start = [read("(F a a)"), read("(G b)"), unify(0, 3)]
        for text, expected in [("(F (G A) (G A))", 1), ("(F (G A) (G B))", 0), ("(F (G c) (G d))", 0),
                               ("(F (G c) (G c))", 1), ("(F c c)", 0), ("(F (G A) c)", 0)]:
            calls = start + [read(text)]
            self.assertEqual(last(*(calls + [becomes(1, last(*calls)[0])])), [expected], text)

    def test_nothing_changes(self):
        start = [read("(F a a)"), read("(F b A)"), read("(F A A)")]
        plain = run(*(start + look_at(7)))[3:]
        for pair in [(1, 6), (1, 4), (4, 6), (6, 1), (0, 6)]:
            self.assertEqual(run(*(start + [becomes(*pair)] + look_at(7)))[4:], plain)


class Large(unittest.TestCase):
    """Two types of more than 10^18 parts: 0 is the variable of the one, 47, and 48 that of the other, 95."""

    def setUp(self):
        self.start = tower(24, 6) + tower(24, 6, 48)

    def answers_of(self, *calls):
        return run(*(self.start + list(calls)))[len(self.start):]

    def test_size(self):
        self.assertGreater(self.answers_of(size(47))[0][0], HUGE)
        self.assertEqual(*self.answers_of(size(47), size(95)))

    def test_like_types(self):
        self.assertEqual(self.answers_of(becomes(47, 95), becomes(95, 47), same(47, 95)), [[1], [1], [0]])

    def test_one_is_more_general(self):
        given = self.answers_of(read("A"), unify(0, 96), becomes(47, 95), becomes(95, 47))
        self.assertEqual(given[2:], [[0], [1]])

    def test_unlike_at_the_bottom(self):
        given = self.answers_of(read("A"), read("B"), unify(0, 96), unify(48, 97), becomes(47, 95), becomes(95, 47))
        self.assertEqual(given[4:], [[0], [0]])

    def test_the_same_though_not_one(self):
        given = self.answers_of(read("A"), read("A"), unify(0, 96), unify(48, 97), becomes(47, 95), becomes(95, 47))
        self.assertEqual(given[4:], [[1], [1]])

    def test_one_is_a_level_higher(self):
        self.assertEqual(self.answers_of(becomes(45, 95), becomes(95, 45)), [[1], [0]])

    def test_one_variable_and_two_large_types(self):
        start = tower(23, 7) + tower(23, 7, 46) + [read("(Q a a)"), read("(Q b c)"), unify(94, 45), unify(95, 91)]
        given = run(*(start + [size(96), becomes(93, 96), becomes(96, 93), unify(0, 46), same(45, 91), becomes(93, 96),
                               becomes(96, 93)]))[len(start):]
        self.assertGreater(given[0][0], HUGE)
        self.assertEqual(given[1:], [[0], [0], [1], [1], [1], [0]])

    def test_a_large_type_and_its_copy(self):
        start = tower(33, 6) + [copy(65)]
        self.assertEqual(run(*(start + [becomes(65, 99), becomes(99, 65), becomes(63, 99)]))[-3:], [[1], [1], [1]])


class Refused(unittest.TestCase):
    def test_no_node(self):
        given = run(becomes(0, 0), read("(F a)"), becomes(2, 0), becomes(0, 2), becomes(-1, 1), becomes(1, -1),
                    becomes(HUGE, 0), becomes(0, HUGE), becomes(-HUGE, 0), becomes(0, -HUGE), becomes(0, 1), type_of(2))
        self.assertEqual(given, [[-3], [1, 0]] + [[-3]] * 8 + [[1], [-3]])


if __name__ == "__main__":
    unittest.main()

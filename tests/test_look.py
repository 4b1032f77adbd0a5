"""Points 4, 5 and 6: same, type and size."""

import unittest

from tests.helper import last, look_at, read, run, same, size, tower, type_of, unify, written


def wide(count):
    """A type with this many parts, in a graph of two nodes."""
    return read("(F" + " a" * (count - 1) + ")")


class Same(unittest.TestCase):
    def test_example(self):
        self.assertEqual(last(read("(-> a (List a))"), read("(-> Int b)"), unify(2, 5), same(0, 4)), [1])

    def test_a_node_and_itself(self):
        self.assertEqual(run(read("(F a)"), same(0, 0), same(1, 1), same(0, 1), same(1, 0))[1:], [[1], [1], [0], [0]])

    def test_variables_are_the_same_only_if_one(self):
        given = run(read("a"), read("a"), same(0, 1), unify(0, 1), same(0, 1), same(1, 0))
        self.assertEqual(given[2:], [[0], [1], [1], [1]])

    def test_the_same_though_not_one(self):
        given = run(read("(F (G A) (G A))"), read("(G A)"), same(1, 3), same(0, 2), same(3, 6), same(0, 5), same(0, 1),
                    same(4, 6))
        self.assertEqual(given[2:], [[1], [1], [1], [1], [0], [0]])

    def test_the_same_once_their_variables_are_one(self):
        given = run(read("(F a b)"), read("(F a b)"), same(2, 5), unify(0, 3), same(2, 5), unify(4, 1), same(2, 5))
        self.assertEqual(given[2:], [[0], [1], [0], [1], [1]])

    def test_a_renamed_type_is_not_the_same(self):
        self.assertEqual(last(read("(F a b)"), read("(F a b)"), unify(0, 4), unify(1, 3), same(2, 5)), [0])

    def test_unlike_constants_and_numbers_of_arguments(self):
        for first, second in [("A", "B"), ("(F A)", "(G A)"), ("F", "(F A)"), ("(F A)", "(F A A)"), ("(F A B)", "(F B A)"),
                              ("->", "A"), ("A", "AA"), ("(F (F A))", "(F A)"), ("a", "A"), ("(F (G A) B)", "(F A (G B))")]:
            a = last(read(first))[0]
            b = last(read(first), read(second))[0]
            self.assertEqual(run(read(first), read(second), same(a, b), same(b, a))[2:], [[0], [0]])

    def test_nothing_changes(self):
        start = [read("(F a A)"), read("(F b A)"), unify(0, 3)]
        plain = run(*(start + look_at(6)))[3:]
        for pair in [(2, 5), (1, 4), (0, 3), (0, 5)]:
            self.assertEqual(run(*(start + [same(*pair)] + look_at(6)))[4:], plain)

    def test_large_types(self):
        calls = [read("(P a a a)")] * 50
        calls += [unify(2 * place + 1, 2 * place + 2) for place in range(49) if place != 24]
        given = run(*(calls + [same(49, 99), same(47, 97), unify(0, 50), same(49, 99), same(47, 97), same(47, 99)]))
        self.assertEqual(given[-6:], [[0], [0], [1], [1], [1], [0]])


class Type(unittest.TestCase):
    def test_example(self):
        given = run(read("(-> a (List a))"), read("(-> Int b)"), type_of(2), type_of(5), unify(2, 5), type_of(2),
                    type_of(5), type_of(0), type_of(3))
        text = written(4, "(-> Int (List Int))")
        self.assertEqual(given[2:], [written(4, "(-> v0 (List v0))"), written(3, "(-> Int v3)"), [2], text, text,
                                     written(1, "Int"), written(2, "(List Int)")])

    def test_one_blank_between_trees_and_none_elsewhere(self):
        self.assertEqual(last(read(" (F(G  a)\n\n(H b   (K C)A) ) "), type_of(7)),
                         written(8, "(F (G v0) (H v1 (K C) A))"))

    def test_parentheses_that_end_together(self):
        self.assertEqual(last(read("(A (B (C d)) (E (F (G h)) i))"), type_of(8)),
                         written(9, "(A (B (C v0)) (E (F (G v1)) v2))"))

    def test_200_and_201_parts(self):
        self.assertEqual(last(wide(200), type_of(1)), written(200, "(F" + " v0" * 199 + ")"))
        self.assertEqual(last(wide(201), type_of(1)), [-6])
        self.assertEqual(run(wide(201), type_of(0), size(1))[1:], [written(1, "v0"), [201]])

    def test_200_and_201_parts_of_types_within_one_another(self):
        given = run(wide(100), read("(F a a)"), unify(2, 1), size(3), type_of(3))
        self.assertEqual(given[-2:], [[201], [-6]])
        given = run(wide(99), read("(F a a B)"), unify(2, 1), size(4), type_of(4))
        part = "(F" + " v0" * 98 + ")"
        self.assertEqual(given[-2:], [[200], written(200, "(F " + part + " " + part + " B)")])

    def test_a_type_deeper_than_a_text_may_be(self):
        calls = tower(50, 1) + [type_of(99)]
        self.assertEqual(last(*calls), written(51, "(P " * 50 + "v0" + ")" * 50))

    def test_a_type_beyond_all_bounds(self):
        self.assertEqual(run(*(tower(30, 5) + [type_of(59), type_of(1)]))[-2:], [[-6], written(6, "(P v0 v0 v0 v0 v0)")])

    def test_after_a_refusal_the_graph_is_as_it_was(self):
        self.assertEqual(run(wide(201), type_of(1), read("b"), unify(0, 2), type_of(2))[2:], [[2, 2], [1], written(1, "v0")])


class Size(unittest.TestCase):
    def test_small_types(self):
        given = run(read("(-> a (List a))"), size(0), size(1), size(2), read("Int"), size(3), unify(0, 3), size(2))
        self.assertEqual(given[1:], [[1], [2], [4], [3], [1], [1], [4]])

    def test_what_stands_often_counts_often(self):
        self.assertEqual(last(read("(F a a a)"), read("(G b c)"), unify(0, 4), size(1)), [10])

    def test_there_is_no_bound(self):
        self.assertEqual(run(wide(200), wide(201), size(1), size(3))[2:], [[200], [201]])

    def test_beyond_10_to_the_18(self):
        calls = tower(50, 5)
        given = run(*(calls + [size(2 * level + 1) for level in range(50)]))[len(calls):]
        expected = 1
        for answer in given:
            expected = 1 + 5 * expected
            self.assertEqual(answer, [expected])
        self.assertGreater(expected, 10 ** 30)

    def test_around_10_to_the_18(self):
        calls = tower(50, 3)
        given = run(*(calls + [size(2 * level + 1) for level in range(50)]))[len(calls):]
        self.assertEqual(given, [[(3 ** (level + 2) - 1) // 2] for level in range(50)])


if __name__ == "__main__":
    unittest.main()

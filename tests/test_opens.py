"""Point 7: opens."""

import unittest

from tests.helper import last, look_at, opens, read, run, tower, unify


class Opens(unittest.TestCase):
    def test_a_variable(self):
        self.assertEqual(run(read("a"), read("b"), opens(0), opens(1))[2:], [[1, 0], [1, 1]])

    def test_none(self):
        given = run(read("(F (G A) B)"), opens(0), opens(1), opens(2), opens(3))
        self.assertEqual(given[1:], [[0]] * 4)

    def test_a_variable_that_stands_many_times(self):
        self.assertEqual(last(read("(F a a (G a) a)"), opens(2)), [1, 0])
        self.assertEqual(last(read("(F" + " a" * 298 + ")"), opens(1)), [1, 0])

    def test_only_what_stands_in_the_type(self):
        given = run(read("(F (G a b) (H b c))"), *[opens(a) for a in range(6)])
        self.assertEqual(given, [[5, 0, 1, 2], [1, 0], [1, 1], [1, 2], [2, 0, 1], [2, 1, 2], [3, 0, 1, 2]])

    def test_variables_that_were_made_one_have_the_least_node_as_name(self):
        start = [read("a"), read("b"), read("c"), read("(F d e)")]
        for calls in [[unify(4, 2), unify(2, 1)], [unify(1, 4), unify(4, 2)], [unify(1, 2), unify(2, 4)]]:
            given = run(*(start + calls + [opens(a) for a in range(6)]))[6:]
            self.assertEqual(given, [[1, 0], [1, 1], [1, 1], [1, 3], [1, 1], [2, 1, 3]])

    def test_a_variable_that_was_made_one_with_a_constant(self):
        given = run(read("(F a b)"), read("A"), read("(G c d)"), unify(0, 3), opens(2), opens(0), unify(1, 6), opens(2),
                    opens(1))
        self.assertEqual(given[3:], [[1], [1, 1], [0], [1], [2, 4, 5], [2, 4, 5]])

    def test_in_order_though_they_stand_otherwise(self):
        start = [read("a"), read("b"), read("c"), read("(F x y z)"), unify(3, 2), unify(4, 0), unify(5, 1)]
        self.assertEqual(last(*(start + [opens(6)])), [3, 0, 1, 2])
        start = [read(name) for name in "abcdefghijkl"] + [read("(F x y z)"), unify(12, 11), unify(13, 2), unify(14, 10)]
        self.assertEqual(last(*(start + [opens(15)])), [3, 2, 10, 11])

    def test_as_many_as_there_can_be(self):
        names = " ".join("a" + str(place) for place in range(99))
        self.assertEqual(run(read("(F " + names + ")"), opens(99))[1], [99] + list(range(99)))

    def test_large_types(self):
        self.assertEqual(last(*(tower(50, 6) + [opens(99)])), [1, 0])
        self.assertEqual(last(*(tower(49, 6) + [read("A"), unify(0, 98), opens(97)])), [0])

    def test_nothing_changes(self):
        start = [read("(F a A)"), read("(F b A)"), unify(0, 3)]
        plain = run(*(start + look_at(6)))[3:]
        self.assertEqual(run(*(start + [opens(5)] + look_at(6)))[4:], plain)

    def test_no_node(self):
        given = run(opens(0), read("(F a)"), opens(-1), opens(2), opens(10 ** 18), opens(-10 ** 18), opens(1))
        self.assertEqual(given, [[-3], [1, 0], [-3], [-3], [-3], [-3], [1, 0]])


if __name__ == "__main__":
    unittest.main()

"""The document's examples, each as one list of calls."""

import unittest

from tests.helper import becomes, copy, opens, read, run, same, type_of, unify, written


class Examples(unittest.TestCase):
    def test_first(self):
        given = run(read("(-> a (List a))"), read("(-> Int b)"), unify(2, 5), type_of(2), same(0, 4), opens(5))
        self.assertEqual(given, [[2, 0], [5, 3], [2], written(4, "(-> Int (List Int))"), [1], [0]])

    def test_second(self):
        given = run(read("(P a b)"), read("(P b (P a a))"), unify(0, 3), unify(1, 5), becomes(2, 6), becomes(6, 2),
                    unify(2, 6), type_of(2), type_of(6), unify(0, 2), copy(2, [4]), type_of(8))
        text = written(5, "(P v0 (P v4 v4))")
        self.assertEqual(given, [[2, 0, 1], [6, 3, 4], [1], [1], [1], [1], [0], text, text, [-9], [8],
                                 written(5, "(P v7 (P v4 v4))")])

    def test_second_as_it_stands_in_the_list(self):
        given = run(read("(P a b)"), read("(P b (P a a))"), unify(0, 3), unify(1, 5), copy(2, [4]), opens(7), opens(8),
                    same(1, 5), type_of(1), read("c"))
        self.assertEqual(given[4:], [[8], [1, 7], [2, 4, 7], [1], written(3, "(P v4 v4)"), [9, 9]])


if __name__ == "__main__":
    unittest.main()

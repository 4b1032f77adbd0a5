"""Points 2 and 3, and what the document says of nodes that are made one."""

import unittest

from tests.helper import last, look_at, meets, read, run, same, size, type_of, unify, written


class Taken(unittest.TestCase):
    def test_first_example(self):
        given = run(read("(-> a (List a))"), read("(-> Int b)"), unify(2, 5), type_of(2), same(0, 4))
        self.assertEqual(given[2:], [[2], written(4, "(-> Int (List Int))"), [1]])

    def test_second_example(self):
        given = run(read("(P a b)"), read("(P b (P a a))"), unify(0, 3), unify(1, 5), unify(2, 6),
                    type_of(2), type_of(6), unify(0, 2))
        text = written(5, "(P v0 (P v4 v4))")
        self.assertEqual(given[2:], [[1], [1], [0], text, text, [-9]])

    def test_two_variables(self):
        self.assertEqual(run(read("a"), read("b"), unify(0, 1), unify(1, 0), unify(0, 0)),
                         [[0, 0], [1, 1], [1], [0], [0]])

    def test_a_variable_and_a_constant_in_either_order(self):
        for pair in [(0, 1), (1, 0)]:
            self.assertEqual(run(read("a"), read("Int"), unify(*pair), type_of(0), type_of(1)),
                             [[0, 0], [1], [1], written(1, "Int"), written(1, "Int")])

    def test_a_node_with_itself(self):
        self.assertEqual(run(read("(F a)"), unify(1, 1), unify(0, 0)), [[1, 0], [0], [0]])

    def test_like_constants_that_are_not_one(self):
        self.assertEqual(run(read("Int"), read("Int"), unify(0, 1)), [[0], [1], [0]])

    def test_arguments_become_one_all_the_way_down(self):
        given = run(read("(F (G a b) c)"), read("(F d (H d))"), unify(4, 7), type_of(4), type_of(7), type_of(5))
        text = written(8, "(F (G v0 v1) (H (G v0 v1)))")
        self.assertEqual(given[2:], [[2], text, text, written(3, "(G v0 v1)")])

    def test_arguments_become_one_by_one_in_place(self):
        given = run(read("(F a b c)"), read("(F d e f)"), unify(3, 7), type_of(4), type_of(5), type_of(6))
        self.assertEqual(given[2:], [[3], written(1, "v0"), written(1, "v1"), written(1, "v2")])

    def test_all_that_is_one_with_either_comes_along(self):
        calls = [read(name) for name in "abcdef"]
        calls += [unify(0, 1), unify(2, 3), unify(4, 5), unify(1, 3), read("Int"), unify(6, 2)]
        given = run(*(calls + [type_of(a) for a in range(6)] + [unify(5, 0)]))
        self.assertEqual(given[6:12], [[1], [1], [1], [1], [6], [1]])
        self.assertEqual(given[12:16], [written(1, "Int")] * 4)
        self.assertEqual(given[16:], [written(1, "v4"), written(1, "v4"), [1]])

    def test_arguments_follow_when_variables_have_become_constants_before(self):
        given = run(read("(F a)"), read("(F Int)"), read("b"), read("c"), unify(4, 1), unify(5, 3), unify(5, 4),
                    type_of(0))
        self.assertEqual(given[4:], [[1], [1], [1], written(1, "Int")])

    def test_one_unify_can_take_away_many_variables(self):
        names = " ".join("a" + str(place) for place in range(49))
        given = run(read("(F " + names + ")"), read("(F" + " x" * 49 + ")"), unify(49, 51), type_of(48))
        self.assertEqual(given[2:], [[49], written(1, "v0")])

    def test_the_arrow_is_a_constant_like_others(self):
        self.assertEqual(last(read("(-> a b)"), read("(-> Int c)"), unify(2, 5)), [2])
        self.assertEqual(last(read("->"), read("->"), unify(0, 1)), [0])

    def test_a_large_type_is_made_one_in_few_steps(self):
        calls = []
        for chain in range(2):
            for level in range(25):
                calls.append(read("(P a a a)"))
        calls += [unify(2 * place + 1, 2 * place + 2) for place in range(49) if place != 24]
        given = run(*(calls + [meets(49, 99), unify(49, 99), same(0, 50), unify(0, 50), size(99)]))
        self.assertEqual(given[-5:], [[1], [1], [1], [0], [sum(3 ** level for level in range(26))]])


class Name(unittest.TestCase):
    def test_a_variable_is_named_by_the_least_node(self):
        given = run(read("a"), read("b"), read("c"), unify(2, 1), type_of(2), type_of(1), unify(2, 0),
                    type_of(2), type_of(1), type_of(0))
        self.assertEqual(given[3:], [[1], written(1, "v1"), written(1, "v1"), [1]] + [written(1, "v0")] * 3)

    def test_whatever_the_order(self):
        for first, second in [((0, 1), (1, 2)), ((1, 2), (0, 1)), ((2, 0), (2, 1)), ((2, 1), (0, 2))]:
            given = run(read("a"), read("b"), read("c"), unify(*first), unify(*second), type_of(0), type_of(1),
                        type_of(2))
            self.assertEqual(given[3:], [[1], [1]] + [written(1, "v0")] * 3)

    def test_a_name_of_two_digits(self):
        calls = [read("a")] * 12 + [unify(11, 10), read("(F b)"), unify(12, 11), type_of(13)]
        self.assertEqual(last(*calls), written(2, "(F v10)"))


CLASHES = [
    ("A", "B"), ("(F a)", "(G a)"), ("F", "(F a)"), ("(F a)", "(F a b)"), ("(F a b)", "(F a)"), ("(F a)", "F"),
    ("->", "A"), ("(-> a b)", "(-> a)"), ("(F A)", "(F B)"), ("(F a a)", "(F A B)"),
    ("(F a a)", "(F (G b) (G c d))"), ("(F a b a b)", "(F c c A B)"), ("A", "Aa"), ("A'", "A"), ("(F a A)", "(F b (A a))"),
]

# The two types are the arguments of Q, so that they share variables.
CLASHES_AND_GOES_ROUND = [
    "(Q (P a X) (P (F a) Y))", "(Q (P X a) (P Y (F a)))", "(Q (P a a) (P (F a) (F (G a))))",
    "(Q (P a a) (P (F (G a)) (F a)))", "(Q (P a b a) (P (F b) (F a) (F (F (F (G a))))))",
    "(Q (P a a a) (P (F a) (F b) (F (F b b))))",
]

GOES_ROUND = [
    "(Q (P a) (P (F a)))", "(Q (P (F a)) (P a))", "(Q a (F a))", "(Q (F a) a)", "(Q (F b (G a)) a)",
    "(Q (P a b) (P (F b) (F a)))", "(Q (P a b c) (P (F b) (F c) (F a)))", "(Q (P a a) (P (F a) (F (F a))))",
    "(Q (P a b) (P b (F a)))", "(Q (P a b) (P (-> b b) (-> a a)))", "(Q (P a a) (P (F b) b))",
]


class Refused(unittest.TestCase):
    def check(self, start, count, a, b, number):
        """Neither a refused unify nor meets leaves anything behind."""
        plain = run(*(start + look_at(count)))[len(start):]
        for pair in [(a, b), (b, a)]:
            given = run(*(start + [unify(*pair)] + look_at(count)))[len(start):]
            self.assertEqual(given, [[number]] + plain)
            given = run(*(start + [meets(*pair)] + look_at(count)))[len(start):]
            self.assertEqual(given, [[0]] + plain)

    def check_tree(self, text, number):
        """The two arguments of the text's Q can't be made one, for this reason."""
        top = last(read(text))[0]
        start = [read(text), read("(Q x y)"), unify(top, top + 3)]
        self.check(start, top + 4, top + 1, top + 2, number)

    def test_clashes(self):
        for first, second in CLASHES:
            a = last(read(first))[0]
            b = last(read(first), read(second))[0]
            self.check([read(first), read(second)], b + 1, a, b, -7)

    def test_clashes_and_goes_round(self):
        for text in CLASHES_AND_GOES_ROUND:
            self.check_tree(text, -7)

    def test_goes_round(self):
        for text in GOES_ROUND:
            self.check_tree(text, -9)

    def test_a_variable_in_its_own_type(self):
        self.check([read("(F a)")], 2, 0, 1, -9)
        self.check([read("(F b (G a))")], 4, 1, 3, -9)

    def test_round_by_two_steps(self):
        start = [read("(F a)"), read("(F b)"), unify(0, 3)]
        self.check(start, 4, 2, 1, -9)

    def test_clash_with_what_was_made_one_before(self):
        start = [read("a"), read("b"), read("A"), read("B"), unify(0, 2), unify(1, 3)]
        self.check(start, 4, 0, 1, -7)
        self.check(start, 4, 0, 3, -7)

    def test_a_refused_unify_leaves_the_earlier_pairs_alone(self):
        given = run(read("(F a b A)"), read("(F A A B)"), unify(3, 7), type_of(3), unify(3, 7), unify(0, 1), type_of(1))
        self.assertEqual(given[2:], [[-7], written(4, "(F v0 v1 A)"), [-7], [1], written(1, "v0")])


class Meets(unittest.TestCase):
    def test_nothing_changes(self):
        start = [read("(-> a (List a))"), read("(-> Int b)")]
        plain = run(*(start + look_at(6)))[2:]
        for pair in [(2, 5), (5, 2), (0, 5), (0, 3), (1, 3)]:
            given = run(*(start + [meets(*pair)] + look_at(6)))[2:]
            self.assertEqual(given, [[1]] + plain)

    def test_it_looks_at_what_was_made_one(self):
        given = run(read("(F a a)"), read("A"), read("B"), read("(F b c)"), meets(2, 3), meets(1, 6), unify(4, 2),
                    unify(5, 3), meets(1, 6), meets(4, 2), meets(5, 4))
        self.assertEqual(given[4:], [[0], [1], [1], [1], [0], [1], [0]])

    def test_a_node_meets_itself(self):
        self.assertEqual(run(read("(F a)"), meets(0, 0), meets(1, 1), meets(0, 1))[1:], [[1], [1], [0]])


if __name__ == "__main__":
    unittest.main()

"""Point 8, and what the document says of copies."""

import unittest

from tests.helper import (becomes, copy, last, look_at, meets, opens, read, run, same, size, tower, type_of, unify,
                          written)

HUGE = 10 ** 18


def filled(text, count):
    """Calls that read the text and fill the graph up to this many nodes."""
    nodes = last(read(text))[0] + 1
    return [read(text), read("(H" + " A" * (count - nodes - 1) + ")")]


class Copied(unittest.TestCase):
    def test_nothing_kept(self):
        given = run(read("(-> a (List b))"), copy(3), type_of(7), type_of(3), opens(7), opens(3), read("c"))
        self.assertEqual(given[1:], [[7], written(4, "(-> v4 (List v5))"), written(4, "(-> v0 (List v1))"), [2, 4, 5],
                                     [2, 0, 1], [8, 8]])

    def test_a_variable(self):
        self.assertEqual(run(read("a"), copy(0), copy(0), copy(1), opens(3), unify(0, 1), opens(2))[1:],
                         [[1], [2], [3], [1, 3], [1], [1, 2]])

    def test_a_copy_and_what_was_copied_go_their_own_ways(self):
        given = run(read("(F a a)"), copy(1), read("A"), read("B"), unify(0, 4), unify(2, 5), type_of(1), type_of(3),
                    meets(1, 3))
        self.assertEqual(given[4:], [[1], [1], written(3, "(F A A)"), written(3, "(F B B)"), [0]])

    def test_a_copy_becomes_what_was_copied_and_the_other_way(self):
        given = run(read("(F a (G b a))"), copy(3), becomes(3, 7), becomes(7, 3), same(3, 7), unify(3, 7), same(3, 7))
        self.assertEqual(given[1:], [[7], [1], [1], [0], [2], [1]])

    def test_constants_without_variables_stay_the_old_nodes(self):
        given = run(read("(F (G A) b (G c))"), copy(5), type_of(6), type_of(7), type_of(8), type_of(9), type_of(10),
                    read("d"))
        self.assertEqual(given[1:6], [[9], written(1, "v6"), written(1, "v7"), written(2, "(G v7)"),
                                      written(6, "(F (G A) v6 (G v7))")])
        self.assertEqual(given[6:], [[-3], [10, 10]])

    def test_only_a_part_is_copied(self):
        given = run(read("(F (G a) (H b))"), copy(2), type_of(6), opens(4), read("c"))
        self.assertEqual(given[1:], [[6], written(2, "(G v5)"), [2, 0, 1], [7, 7]])

    def test_a_copy_of_a_copy(self):
        given = run(read("(F a (G a))"), copy(2), copy(5), type_of(8), unify(6, 0), type_of(8), type_of(5))
        self.assertEqual(given[1:], [[5], [8], written(4, "(F v6 (G v6))"), [1], written(4, "(F v0 (G v0))"),
                                     written(4, "(F v3 (G v3))")])

    def test_what_was_there_stays_as_it_was(self):
        start = [read("(F a (G b))"), read("(F c d)"), unify(0, 4)]
        told = look_at(7)[:-2]
        self.assertEqual(run(*(start + [copy(3, [4])] + told))[4:], run(*(start + told))[3:])


class Kept(unittest.TestCase):
    def test_some_variables(self):
        given = run(read("(F a b c)"), copy(3, [1]), type_of(6), opens(6))
        self.assertEqual(given[1:], [[6], written(4, "(F v4 v1 v5)"), [3, 1, 4, 5]])
        given = run(read("(F a b c)"), copy(3, [2, 0]), type_of(5))
        self.assertEqual(given[1:], [[5], written(4, "(F v0 v4 v2)")])

    def test_all_variables(self):
        for keep in [[0, 1], [1, 0], [3], [2, 0], [0, 1, 2, 3]]:
            given = run(read("(F a (G b))"), copy(3, keep), copy(1, keep), copy(2, keep), read("c"))
            self.assertEqual(given[1:], [[3], [1], [2], [4, 4]], keep)

    def test_no_variables(self):
        given = run(read("(F (G A) B)"), copy(3), copy(1), copy(0, [0, 3]), read("c"))
        self.assertEqual(given[1:], [[3], [1], [0], [4, 4]])

    def test_a_itself_is_answered_not_its_name(self):
        given = run(read("A"), read("A"), unify(0, 1), copy(1), copy(0), read("(F a)"), read("(F a)"), unify(3, 5),
                    copy(5, [2]), copy(4, [2]), copy(3, [4]), read("c"))
        self.assertEqual(given[3:5], [[1], [0]])
        self.assertEqual(given[8:], [[5], [4], [3], [6, 6]])

    def test_a_node_that_is_no_variable_keeps_all_variables_in_its_type(self):
        given = run(read("(F (G a b) c)"), copy(4, [3]), type_of(6), read("d"))
        self.assertEqual(given[1:], [[6], written(5, "(F (G v0 v1) v5)"), [7, 7]])
        given = run(read("(F a b)"), read("(G (H c) d)"), unify(0, 3), copy(2, [6]), type_of(8), opens(8))
        self.assertEqual(given[3:], [[8], written(3, "(F v0 v7)"), [2, 0, 7]])

    def test_a_node_without_variables_keeps_nothing(self):
        self.assertEqual(run(read("(F a A)"), copy(2, [1]), type_of(4))[1:], [[4], written(3, "(F v3 A)")])

    def test_a_node_that_was_made_one_with_a_variable_in_the_type(self):
        given = run(read("(F a b)"), read("c"), unify(1, 3), copy(2, [3]), type_of(5))
        self.assertEqual(given[2:], [[1], [5], written(3, "(F v4 v1)")])
        given = run(read("c"), read("(F a b)"), unify(2, 0), copy(3, [0]), copy(3, [2]), type_of(5), type_of(7))
        self.assertEqual(given[2:], [[1], [5], [7], written(3, "(F v4 v0)"), written(3, "(F v6 v0)")])

    def test_a_kept_variable_that_was_made_one_with_a_constant(self):
        given = run(read("(F a b)"), read("(G c)"), unify(0, 4), copy(2, [0]), type_of(6), read("d"))
        self.assertEqual(given[2:], [[1], [6], written(4, "(F (G v3) v5)"), [7, 7]])

    def test_kept_nodes_that_have_nothing_to_do_with_the_type(self):
        self.assertEqual(run(read("(F a)"), read("(F b)"), copy(1, [2, 3]), type_of(5))[2:], [[5], written(2, "(F v4)")])

    def test_a_number_twice(self):
        given = run(read("(F a b)"), copy(2, [0, 0]), copy(2, [1, 0, 1]), type_of(4))
        self.assertEqual(given[1:], [[4], [2], written(3, "(F v0 v3)")])

    def test_1000_kept_nodes(self):
        start = [read("(F a b c)")]
        given = run(*(start + [copy(3, [0, 2] * 500), type_of(5), copy(3, [0, 1, 2, 2] * 250), copy(3, [0] * 999 + [6])]))
        self.assertEqual(given[1:], [[5], written(4, "(F v0 v4 v2)"), [3], [-3]])
        self.assertEqual(last(*(start + [copy(3, [1] * 999 + [3])])), [3])

    def test_kept_variables_stay_one_with_the_old_ones(self):
        given = run(read("(F a (G b))"), copy(3, [2]), read("A"), unify(1, 6), type_of(5), type_of(3), opens(5))
        self.assertEqual(given[1:], [[5], [6], [1], written(4, "(F v4 (G A))"), written(4, "(F v0 (G A))"), [1, 4]])


class Order(unittest.TestCase):
    def test_that_of_the_names(self):
        given = run(read("(F a)"), read("(G b)"), unify(0, 3), type_of(1), copy(1), type_of(4), type_of(5), type_of(6))
        self.assertEqual(given[3:], [written(3, "(F (G v2))"), [5], written(2, "(G v6)"), written(3, "(F (G v6))"),
                                     written(1, "v6")])

    def test_arguments_with_larger_names_in_many_levels(self):
        count = 20
        first = 2 * count
        calls = [read("(P a)")] * count + [unify(2 * level + 3, 2 * level) for level in range(count - 1)]
        given = run(*(calls + [type_of(1), copy(1), opens(first + 1), type_of(first + 1)]))[-4:]
        self.assertEqual(given, [
            written(count + 1, "(P " * count + "v" + str(first - 2) + ")" * count), [first + 1], [1, first + count],
            written(count + 1, "(P " * count + "v" + str(first + count) + ")" * count)])

    def test_arguments_with_lesser_names_in_many_levels(self):
        count = 20
        first = 2 * count
        calls = tower(count, 1) + [copy(first - 1)] + [type_of(first + place) for place in range(count + 1)]
        self.assertEqual(run(*calls)[2 * count - 1:], [[first + count]] + [
            written(place + 1, "(P " * place + "v" + str(first) + ")" * place) for place in range(count + 1)])

    def test_the_text_has_another_order(self):
        given = run(read("a"), read("b"), read("(F x (G y))"), unify(2, 1), unify(3, 0), copy(5), type_of(9), type_of(8))
        self.assertEqual(given[5:], [[9], written(4, "(F v7 (G v6))"), written(2, "(G v6)")])


class Shared(unittest.TestCase):
    def test_what_was_made_one_is_copied_once(self):
        given = run(read("(F a a b)"), read("(G c)"), unify(0, 4), copy(2), type_of(7), type_of(5), read("d"))
        self.assertEqual(given[2:], [[1], [7], written(6, "(F (G v8) (G v8) v6)"), written(2, "(G v8)"), [9, 9]])

    def test_constants_that_were_made_one_are_copied_once(self):
        given = run(read("(F (G a) (G b) c)"), copy(5), unify(3, 4), copy(5), type_of(15), read("d"))
        self.assertEqual(given[1:], [[11], [1], [15], written(6, "(F (G v12) (G v12) v13)"), [16, 16]])

    def test_a_copy_of_a_node_that_has_a_lesser_node_as_name(self):
        given = run(read("(F a)"), read("(F b)"), unify(1, 3), copy(3), type_of(5), copy(2), opens(6), read("d"))
        self.assertEqual(given[2:], [[1], [5], written(2, "(F v4)"), [6], [1, 6], [7, 7]])

    def test_the_same_though_not_one_is_copied_twice(self):
        given = run(read("(F (G a) (G a))"), copy(3), type_of(7), read("b"))
        self.assertEqual(given[1:], [[7], written(5, "(F (G v4) (G v4))"), [8, 8]])

    def test_large_types(self):
        calls = tower(33, 6)
        given = run(*(calls + [copy(65), size(99), size(65), same(65, 99), becomes(65, 99), opens(99), read("a")]))
        parts = sum(6 ** level for level in range(34))
        self.assertEqual(given[len(calls):], [[99], [parts], [parts], [0], [1], [1, 66], [-8]])


class Refused(unittest.TestCase):
    def test_no_node(self):
        start = [read("(F a)"), read("b")]
        plain = run(*(start + look_at(3)))[2:]
        for number in [-1, 3, 99, 100, HUGE, -HUGE]:
            for call in [copy(number), copy(number, [0]), copy(0, [number]), copy(1, [0, 1, number]),
                         copy(1, [number, 0]), copy(number, [number])]:
                given = run(*(start + [call] + look_at(3)))[2:]
                self.assertEqual(given, [[-3]] + plain, call)
        self.assertEqual(run(copy(0), copy(0, [0])), [[-3], [-3]])

    def test_no_node_though_nothing_would_be_copied(self):
        self.assertEqual(run(read("A"), copy(0, [1]), copy(0, [0]))[1:], [[-3], [0]])

    def test_100_nodes(self):
        start = filled("(F a b)", 97)
        given = run(*(start + [copy(2), type_of(99), size(99), size(100), copy(0), copy(2, [1])]))[2:]
        self.assertEqual(given, [[99], written(3, "(F v97 v98)"), [3], [-3], [-8], [-8]])

    def test_101_nodes(self):
        start = filled("(F a b)", 98)
        told = [type_of(2), opens(2), size(97), size(98), same(0, 1), opens(0), read("(G c)"), opens(98), opens(99)]
        given = run(*(start + [copy(2)] + told))[2:]
        self.assertEqual(given[0], [-8])
        self.assertEqual(given[1:], run(*(start + told))[2:])
        self.assertEqual(given[-5:], [[0], [1, 0], [99, 98], [1, 98], [1, 98]])

    def test_at_101_nodes_less_can_be_copied(self):
        start = filled("(F a b)", 98)
        self.assertEqual(run(*(start + [copy(2), copy(2, [1]), type_of(99)]))[2:], [[-8], [99], written(3, "(F v98 v1)")])

    def test_a_full_graph_and_nothing_to_copy(self):
        start = filled("(F a b)", 100)
        given = run(*(start + [copy(2), copy(2, [0]), copy(2, [2]), copy(2, [0, 1]), copy(99), copy(50)]))[2:]
        self.assertEqual(given, [[-8], [-8], [2], [2], [99], [50]])

    def test_no_node_is_told_ahead_of_no_room(self):
        start = filled("(F a b)", 98)
        for number in [-1, 98, 100, HUGE, -HUGE]:
            given = run(*(start + [copy(2, [number]), copy(number), copy(2, [0] * 999 + [number]), copy(2)]))[2:]
            self.assertEqual(given, [[-3], [-3], [-3], [-8]])


if __name__ == "__main__":
    unittest.main()

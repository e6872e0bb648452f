"""Points 300 to 302: sentences at a cut."""

import unittest
from itertools import product

from cutpapers.forms import is_sentence
from cutpapers.order import Order
from cutpapers.sentences import fulfils, holds, kind, part
from tests.samples import CROSSING, EMPTY_STEP, RUN_109, SENTENCE_110, kinds, many_steps, nested, slow_cuts, slow_state
from tests.searches import Numbers, fulfilling, made_joint, made_runs, made_sentence, slow_holds

# Two processes; the letters 1 and 2 are under way for a while, 3 for ever.
VALUES = (
    (("step", (("a", 2), ("b", -3))), ("send", 1, ()), ("send", 2, (("a", 5),)), ("take", 2, ()), ("send", 3, ())),
    (("step", (("c", 4),)), ("take", 1, (("a", -1), ("c", 4))), ("step", (("c", 0),))),
)

YES = ("way", 0)
NO = ("way", 999)

AT_0 = ("at", 0, "a", 1)
AT_1 = ("at", 1, "b", 2)
AT_2 = ("at", 2, "c", 3)
WAY = ("way", 1)
SUM = ("sum", ((1, 0, "a"),), 1)


class TestHolds(unittest.TestCase):

    def setUp(self):
        self.order = Order(VALUES)

    def assert_bound(self, cut, value, sentence_of):
        """Asserts that the sentence is fulfilled for the bounds up to the value, and for no greater one."""
        for bound in (-100000, value - 1, value):
            self.assertIs(True, holds(self.order, cut, sentence_of(bound)), (cut, bound))
        for bound in (value + 1, 100000):
            self.assertIs(False, holds(self.order, cut, sentence_of(bound)), (cut, bound))

    def test_at(self):
        expected = [
            ((0, 0), 0, "a", 0), ((1, 0), 0, "a", 2), ((1, 0), 0, "b", -3), ((2, 0), 0, "a", 2), ((3, 0), 0, "a", 5),
            ((3, 0), 1, "a", 0), ((3, 2), 1, "a", -1), ((3, 2), 0, "a", 5), ((5, 3), 0, "d", 0), ((0, 1), 1, "c", 4),
            ((2, 2), 1, "c", 4), ((2, 3), 1, "c", 0), ((0, 1), 0, "c", 0), ((5, 3), 0, "b", -3),
        ]
        for cut, process, variable, value in expected:
            self.assert_bound(cut, value, lambda bound: ("at", process, variable, bound))

    def test_way(self):
        expected = {(0, 0): 0, (1, 1): 0, (2, 0): 1, (2, 2): 0, (3, 0): 2, (3, 2): 1, (4, 1): 1, (4, 2): 0, (5, 1): 2, (5, 3): 1}
        for cut, many in expected.items():
            for number in range(5):
                self.assertIs(number <= many, holds(self.order, cut, ("way", number)), (cut, number))
            self.assertIs(False, holds(self.order, cut, NO))

    def test_sum(self):
        expected = [
            ((3, 2), ((1, 0, "a"),), 5), ((3, 2), ((1, 0, "a"), (1, 1, "a")), 4), ((3, 2), ((2, 0, "a"), (-3, 0, "b")), 19),
            ((3, 2), ((1, 0, "a"), (1, 0, "a"), (1, 0, "a")), 15), ((3, 2), ((0, 0, "a"), (1, 1, "c")), 4),
            ((3, 2), ((0, 0, "a"),), 0), ((3, 2), ((9, 0, "a"), (-9, 0, "a")), 0), ((0, 0), ((9, 0, "a"), (9, 1, "c")), 0),
            ((1, 1), ((-9, 0, "a"), (9, 1, "c"), (1, 0, "b"), (1, 0, "d"), (-1, 1, "c"), (-1, 1, "c")), 7),
        ]
        for cut, terms, value in expected:
            self.assert_bound(cut, value, lambda bound: ("sum", terms, bound))

    def test_the_greatest_values(self):
        self.order = Order(((("step", (("a", 1000),)),), (("step", (("d", -1000),)),)))
        self.assert_bound((1, 1), 1000, lambda bound: ("at", 0, "a", bound))
        self.assert_bound((1, 1), -1000, lambda bound: ("at", 1, "d", bound))
        self.assert_bound((1, 1), 54000, lambda bound: ("sum", ((9, 0, "a"),) * 6, bound))
        self.assert_bound((1, 1), -54000, lambda bound: ("sum", ((9, 1, "d"),) * 6, bound))

    def test_not_and_or(self):
        truths = {YES: True, NO: False}
        for one, other in product(truths, repeat=2):
            cut = (0, 0)
            self.assertIs(not truths[one], holds(self.order, cut, ("not", one)))
            self.assertIs(truths[one] and truths[other], holds(self.order, cut, ("and", one, other)))
            self.assertIs(truths[one] or truths[other], holds(self.order, cut, ("or", one, other)))

    def test_six_deep(self):
        self.assertIs(False, holds(self.order, (0, 0), nested(6, YES)))
        self.assertIs(True, holds(self.order, (0, 0), nested(6, NO)))
        self.assertIs(True, holds(self.order, (0, 0), nested(5, YES)))
        deep = ("and", ("or", ("not", ("and", ("or", ("at", 0, "a", 5), WAY), ("not", SUM))), NO), YES)
        self.assertTrue(is_sentence(2, deep))
        self.assertEqual([(0, 0), (1, 0), (2, 0)], [cut for cut in ((0, 0), (1, 0), (2, 0)) if holds(self.order, cut, deep)])

    def test_the_sentence_of_point_110(self):
        first = (("step", (("a", 5),)), ("step", (("a", 4), ("b", -2))))
        order = Order((first, (("step", (("a", 2),)), ("step", (("a", -1),)))))
        expected = [(0, 0), (0, 1), (0, 2), (2, 2)]
        self.assertEqual(expected, [cut for cut in order.cuts(9) if holds(order, cut, SENTENCE_110)])

    def test_made_sentences(self):
        numbers = Numbers(21)
        for run in made_runs() + [CROSSING, RUN_109, VALUES, many_steps(3, 2)]:
            order = Order(run)
            sentences = [made_sentence(numbers, len(run), numbers.between(1, 6)) for _ in range(4)]
            for cut in slow_cuts(run):
                for sentence in sentences:
                    self.assertIs(slow_holds(run, cut, sentence), holds(order, cut, sentence), (run, cut, sentence))

    def test_earlier_calls_do_not_matter(self):
        numbers = Numbers(22)
        sentences = [made_sentence(numbers, 3, depth) for depth in (1, 2, 3, 4, 5, 6)]
        asked = list(product(slow_cuts(CROSSING), sentences))
        told = kinds(tuple(asked))
        order = Order(CROSSING)
        there = [holds(order, cut, sentence) for cut, sentence in asked]
        back = [holds(order, cut, sentence) for cut, sentence in reversed(asked)]
        self.assertEqual(there, back[::-1])
        self.assertEqual([holds(Order(CROSSING), cut, sentence) for cut, sentence in asked], there)
        self.assertEqual(told, kinds(tuple(asked)))

    def test_beyond_the_limits(self):
        cut = (5, 3)
        self.assertIs(True, holds(self.order, cut, nested(40, NO)))
        self.assertIs(True, holds(self.order, cut, nested(41, YES)))
        self.assertIs(True, holds(self.order, cut, ("sum", ((10, 0, "a"),) * 9, 450)))
        self.assertIs(False, holds(self.order, cut, ("sum", ((10, 0, "a"),) * 9, 451)))
        self.assertIs(True, holds(self.order, cut, ("sum", (), 0)))
        self.assertIs(False, holds(self.order, cut, ("at", 0, "a", 10 ** 9)))
        self.assertIs(True, holds(self.order, cut, ("way", -1)))
        self.assertIs(False, holds(self.order, cut, ("way", 1000)))

    def test_a_process_that_the_run_does_not_have_counts_as_one_without_events(self):
        for process in (-1, 2, 6):
            self.assertIs(True, holds(self.order, (5, 3), ("at", process, "a", 0)))
            self.assertIs(False, holds(self.order, (5, 3), ("at", process, "a", 1)))
            self.assertIs(True, holds(self.order, (5, 3), ("sum", ((9, process, "b"), (1, 0, "a")), 5)))
            self.assertIs(False, holds(self.order, (5, 3), ("sum", ((9, process, "b"), (1, 0, "a")), 6)))
            self.assertIs(False, fulfils(self.order, process, 1, [("at", process, "a", 1)]))


class TestKind(unittest.TestCase):

    def test_joint(self):
        joint = [
            AT_0, ("not", AT_0), ("and", AT_0, AT_1), ("and", AT_0, AT_0), ("or", AT_0, AT_0), ("and", ("not", AT_0), AT_1),
            ("and", ("and", AT_0, AT_1), ("and", AT_2, AT_0)), ("or", AT_0, ("not", ("at", 0, "d", -4))),
            ("not", ("and", AT_0, ("not", AT_0))), ("and", AT_1, ("or", AT_0, ("and", AT_0, ("not", AT_0)))),
            ("and", ("and", ("or", AT_0, AT_0), ("not", AT_1)), ("not", ("or", AT_2, AT_2))), nested(6, AT_2),
        ]
        for sentence in joint:
            self.assertEqual("joint", kind(sentence), sentence)

    def test_sum(self):
        for terms in (((1, 0, "a"),), ((0, 1, "d"), (0, 1, "d")), ((1, 0, "a"), (-1, 1, "a"), (9, 2, "c"))):
            self.assertEqual("sum", kind(("sum", terms, -5)))

    def test_free(self):
        free = [
            WAY, ("way", 0), ("not", WAY), ("not", SUM), ("and", SUM, SUM), ("or", SUM, SUM), ("and", AT_0, SUM),
            ("and", AT_0, WAY), ("and", WAY, AT_0), ("or", AT_0, AT_1), ("not", ("and", AT_0, AT_1)), ("not", ("or", AT_1, AT_0)),
            ("and", AT_0, ("or", AT_0, AT_1)), ("and", ("or", AT_0, AT_2), AT_0), ("or", AT_0, WAY), ("or", SUM, AT_0),
            ("and", AT_0, ("and", AT_1, ("not", WAY))), ("or", ("and", AT_0, AT_1), AT_0), ("not", ("not", ("and", AT_0, AT_1))),
            ("and", ("and", ("and", AT_0, AT_1), AT_2), ("not", ("or", AT_0, ("not", SUM)))), nested(6, SUM), nested(6, WAY),
        ]
        for sentence in free:
            self.assertEqual("free", kind(sentence), sentence)

    def test_beyond_the_limits(self):
        self.assertEqual("joint", kind(nested(40, AT_0)))
        self.assertEqual("free", kind(nested(40, WAY)))
        self.assertEqual("joint", kind(("at", 9, "a", 10 ** 9)))
        self.assertEqual("sum", kind(("sum", ((99, 9, "a"),) * 9, 10 ** 9)))


class TestPart(unittest.TestCase):

    def test_one_limb(self):
        for limb in (AT_1, ("not", AT_1), ("or", AT_1, ("and", AT_1, AT_1)), ("not", ("and", AT_1, AT_1))):
            self.assertEqual([[], [limb], []], [part(limb, process) for process in range(3)])

    def test_the_limbs_stand_in_order(self):
        limbs = [("at", 0, "a", number) for number in range(8)]
        left = right = None
        for first, last in zip(limbs, reversed(limbs)):
            left = first if left is None else ("and", left, first)
            right = last if right is None else ("and", last, right)
        middle = ("and", ("and", limbs[0], ("and", limbs[1], limbs[2])), ("and", ("and", limbs[3], limbs[4]), limbs[5]))
        self.assertEqual(limbs, part(left, 0))
        self.assertEqual(limbs, part(right, 0))
        self.assertEqual(limbs[:6], part(middle, 0))

    def test_each_process_has_its_own(self):
        denied = ("not", ("and", AT_1, ("at", 1, "a", 0)))
        either = ("or", ("at", 0, "b", 1), ("and", AT_0, AT_0))
        sentence = ("and", ("and", AT_2, either), ("and", ("and", denied, AT_0), ("and", AT_1, AT_2)))
        self.assertEqual([either, AT_0], part(sentence, 0))
        self.assertEqual([denied, AT_1], part(sentence, 1))
        self.assertEqual([AT_2, AT_2], part(sentence, 2))
        self.assertEqual([], part(sentence, 3))

    def test_no_and_inside_another_word_is_taken_apart(self):
        for sentence in (("not", ("and", AT_0, AT_0)), ("or", ("and", AT_0, AT_0), AT_0), ("or", AT_0, ("and", AT_0, AT_0))):
            self.assertEqual([sentence], part(sentence, 0))
            self.assertEqual([AT_0, sentence], part(("and", AT_0, sentence), 0))

    def test_the_list_is_new(self):
        sentence = ("and", AT_0, AT_1)
        changed = part(sentence, 0)
        changed.append(AT_2)
        changed[0] = None
        self.assertEqual([AT_0], part(sentence, 0))
        self.assertEqual(("and", AT_0, AT_1), sentence)

    def test_a_joint_sentence_is_fulfilled_just_if_each_part_is(self):
        numbers = Numbers(23)
        many = 0
        for run in made_runs():
            order = Order(run)
            sentence = made_joint(numbers, len(run), numbers.between(1, 4))
            self.assertEqual("joint", kind(sentence))
            cuts = fulfilling(run, sentence)
            many += len(cuts)
            for cut in slow_cuts(run):
                parts = [fulfils(order, process, number, part(sentence, process)) for process, number in enumerate(cut)]
                self.assertEqual(cut in cuts, all(parts), (run, cut, sentence))
        self.assertGreater(many, 500)


class TestFulfils(unittest.TestCase):

    def test_states(self):
        order = Order(VALUES)
        limbs = [("at", 0, "a", 2), ("not", ("at", 0, "a", 5))]
        self.assertEqual([False, True, True, False, False, False], [fulfils(order, 0, events, limbs) for events in range(6)])
        limbs = [("or", ("at", 1, "c", 4), ("at", 1, "b", 1))]
        self.assertEqual([False, True, True, False], [fulfils(order, 1, events, limbs) for events in range(4)])
        for events in range(4):
            self.assertIs(type(fulfils(order, 1, events, limbs)), bool)

    def test_no_limbs(self):
        order = Order(((), (EMPTY_STEP,)))
        self.assertEqual([True] * 3, [fulfils(order, 0, 0, []), fulfils(order, 1, 0, []), fulfils(order, 1, 1, [])])

    def test_made_limbs(self):
        numbers = Numbers(24)
        for run in made_runs():
            order = Order(run)
            limbs = part(made_joint(numbers, 1, numbers.between(1, 3)), 0)
            kept = list(limbs)
            for events in range(len(run[0]) + 1):
                self.assertEqual(slow_state(run, 0, events), order.state(0, events))
                expected = all(slow_holds(run, (events,) + (0,) * (len(run) - 1), limb) for limb in limbs)
                self.assertIs(expected, fulfils(order, 0, events, limbs))
            self.assertEqual(kept, limbs)

    def test_beyond_the_rows(self):
        order = Order(VALUES)
        self.assertIs(True, fulfils(order, 0, 9, [("at", 0, "a", 5)]))
        self.assertIs(True, fulfils(order, 0, -1, [("at", 0, "a", 0)]))
        self.assertIs(False, fulfils(order, 0, -1, [("at", 0, "a", 1)]))


if __name__ == "__main__":
    unittest.main()

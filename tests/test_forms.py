"""Points 100, 101, 103 to 107: events, runs and sentences."""

import copy
import unittest
from itertools import product

from cutpapers.forms import is_event, is_run, is_sentence
from tests.samples import CROSSING, EMPTY_STEP, FULL_CHANGES, RUN_109, SENTENCE_110, Hostile, HostileInt
from tests.samples import many_steps, nested, other_values, replaced, rows_of, shown, slow_is_run


class Checks(unittest.TestCase):

    def assert_all(self, expected, test, values):
        for value in values:
            self.assertIs(expected, test(value), shown(value))


class TestIsEvent(Checks):

    def test_the_three_kinds(self):
        self.assert_all(True, is_event, [
            ("step", ()), ("step", (("a", 1),)), ("send", 5, ()), ("send", 5, (("b", -4), ("d", 0))),
            ("take", 5, ()), ("take", 1, FULL_CHANGES),
        ])

    def test_other_lengths_and_kinds(self):
        self.assert_all(False, is_event, [
            (), ("step",), ("send",), ("take",), ("step", 5), ("step", 5, ()), ("step", (), ()), ("send", ()),
            ("take", ()), ("send", 5), ("take", 5), ("send", 5, (), ()), ("take", 5, (), ()), ("Step", ()),
            ("steps", ()), ("", ()), ("jump", ()), ("jump", 5, ()), ("way", 5, ()), ["step", ()], ("send", (), 5),
            "step", ("step ", ()), ("se", 5, ()), ("sendtake", 5, ()),
        ])

    def test_letters(self):
        for kind in ("send", "take"):
            self.assert_all(True, is_event, [(kind, letter, ()) for letter in (1, 2, 998, 999)])
            self.assert_all(False, is_event, [
                (kind, letter, ()) for letter in (0, -1, 1000, True, False, None, "5", 5.0, (5,), HostileInt(5))
            ])

    def test_values_of_changes(self):
        self.assert_all(True, is_event, [("step", (("a", value),)) for value in (-1000, -1, 0, 1, 1000)])
        self.assert_all(False, is_event, [
            ("step", (("a", value),)) for value in (-1001, 1001, True, False, None, "1", 1.0, (1,), HostileInt(1))
        ])

    def test_variables_of_changes(self):
        self.assert_all(True, is_event, [("step", ((variable, 1),)) for variable in "abcd"])
        self.assert_all(False, is_event, [
            ("step", ((variable, 1),)) for variable in ("e", "A", "", "ab", "a ", 0, None, b"a", ("a",), True)
        ])

    def test_changes_are_strictly_ascending(self):
        for size in range(6):
            for variables in product("abcd", repeat=size):
                changes = tuple((variable, 1) for variable in variables)
                expected = list(variables) == sorted(set(variables))
                for event in (("step", changes), ("send", 5, changes), ("take", 5, changes)):
                    self.assertIs(expected, is_event(event), event)

    def test_changes_of_another_form(self):
        self.assert_all(False, is_event, [
            ("step", changes) for changes in (
                None, [], {}, "", "a", 0, ("a", 1), [("a", 1)], (["a", 1],), (("a",),), (("a", 1, 2),), ((),),
                ((1, "a"),), (("a", 1), None), (None, ("a", 1)), {"a": 1}, (("a", 1), ["b", 1]),
            )
        ])

    def test_any_value_at_any_place(self):
        for event in (("step", (("a", 1), ("b", 2))), ("send", 5, (("a", 1),)), ("take", 5, ())):
            self.assertIs(True, is_event(event))
            for value in replaced(event):
                self.assertIs(bool, type(is_event(value)))
        for value in other_values():
            self.assertIs(False, is_event(value))


class TestIsRun(Checks):

    def test_the_examples(self):
        self.assertIs(True, is_run(((("send", 5, ()),), (("take", 5, (("a", 1),)),))))
        self.assertIs(False, is_run(((("take", 5, ()), ("send", 5, ())),)))
        self.assertIs(True, is_run(RUN_109))
        self.assertIs(True, is_run(CROSSING))

    def test_number_of_processes(self):
        self.assert_all(True, is_run, [((),) * count for count in range(1, 7)])
        self.assert_all(False, is_run, [(), ((),) * 7, ((),) * 1000])

    def test_number_of_events(self):
        self.assert_all(True, is_run, [many_steps(1, 0), many_steps(1, 1), many_steps(1, 30), many_steps(6, 30)])
        self.assert_all(False, is_run, [many_steps(1, 31), many_steps(5, 30) + many_steps(1, 31)])
        self.assertIs(False, is_run(many_steps(1, 31) + ((),)))

    def test_a_process_sends_to_itself(self):
        self.assertIs(True, is_run(((("send", 5, ()), EMPTY_STEP, ("take", 5, ())),)))
        self.assertIs(False, is_run(((("take", 5, ()), EMPTY_STEP, ("send", 5, ())),)))

    def test_letters_that_are_never_taken(self):
        self.assertIs(True, is_run(((("send", 5, ()), ("send", 6, ())), (("take", 6, ()),))))

    def test_letters_sent_or_taken_twice(self):
        send, take = ("send", 5, ()), ("take", 5, ())
        self.assert_all(False, is_run, [
            ((send, send),), ((send,), (send,)), ((send, ("send", 5, (("a", 1),))),), ((send, take, send),),
            ((send,), (take, take)), ((send,), (take,), (take,)), ((send, send), (take, take)),
            ((send, take, take),), ((send, take), (send, take)),
        ])

    def test_a_take_without_a_send(self):
        self.assert_all(False, is_run, [
            ((("take", 5, ()),),), ((("send", 6, ()),), (("take", 5, ()),)), ((), (("take", 5, ()),)),
        ])

    def test_not_possible_though_each_letter_is_sent(self):
        two = ((("take", 1, ()), ("send", 2, ())), (("take", 2, ()), ("send", 1, ())))
        three = ((("take", 3, ()), ("send", 1, ())), (("take", 1, ()), ("send", 2, ())),
                 (("take", 2, ()), ("send", 3, ())))
        late = ((("send", 4, ()), ("take", 1, ()), ("send", 2, ())),
                (("take", 4, ()), ("take", 2, ()), ("send", 1, ()), EMPTY_STEP))
        self.assert_all(False, is_run, [two, three, late])
        self.assertIs(True, is_run(((("send", 2, ()), ("take", 1, ())), (("send", 1, ()), ("take", 2, ())))))

    def test_a_long_way_back_and_forth(self):
        first, second = [], []
        for letter in range(1, 31, 2):
            first += [("send", letter, ()), ("take", letter + 1, ())]
            second += [("take", letter, ()), ("send", letter + 1, ())]
        self.assertIs(True, is_run((tuple(second), tuple(first))))
        self.assertIs(False, is_run((tuple(second), tuple(first[1:] + first[:1]))))

    def test_all_small_rows(self):
        alphabet = [("step", ()), ("send", 1, ()), ("send", 2, ()), ("take", 1, ()), ("take", 2, ())]
        two = rows_of(alphabet, 3)
        for rows in list(product(two, two))[::3] + list(product(rows_of(alphabet, 2), repeat=3))[::4]:
            self.assertIs(slow_is_run(rows), is_run(rows), rows)

    def test_lists_in_place_of_tuples(self):
        self.assert_all(False, is_run, [
            [], [()], ([],), ([EMPTY_STEP],), ((["step", ()],),), ((("step", []),),), ((("step", (["a", 1],)),),),
            [(EMPTY_STEP,)], "", "step", {}, None, True, 1, (EMPTY_STEP,), EMPTY_STEP,
        ])

    def test_any_value_at_any_place(self):
        self.assertIs(True, is_run(RUN_109))
        for value in replaced(RUN_109):
            self.assertIs(bool, type(is_run(value)))
        for value in other_values():
            if type(value) is not tuple or value != ((),):
                self.assertIs(False, is_run(value))

    def test_wrong_values_at_each_depth(self):
        for wrong in (None, True, "e", [], 1.5, Hostile(), ((((),),),)):
            self.assert_all(False, is_run, [
                wrong, (wrong,), ((), wrong), ((wrong,),), ((EMPTY_STEP, wrong),), (((wrong, ()),),),
                ((("step", wrong),),), ((("step", (wrong,)),),), ((("step", ((wrong, 1),)),),),
                ((("step", (("a", wrong),)),),), ((("send", wrong, ()),),), ((("send", 5, wrong),),),
            ])

    def test_arguments_are_not_modified(self):
        value = [[["step", [["a", 1]]]], ([("send", 5, [])],), {"a": [1]}]
        kept = copy.deepcopy(value)
        for part in [value] + value:
            is_event(part)
            is_run(part)
            is_run((part,))
            is_sentence(2, part)
            is_sentence(part, ("way", 1))
        self.assertEqual(kept, value)


class TestIsSentence(Checks):

    def assert_sentences(self, expected, count, values):
        self.assert_all(expected, lambda value: is_sentence(count, value), values)

    def test_each_kind(self):
        at, way = ("at", 1, "c", 5), ("way", 3)
        self.assert_sentences(True, 2, [
            at, way, ("sum", ((1, 0, "a"),), 0), ("not", at), ("and", at, way), ("or", way, way), SENTENCE_110,
        ])

    def test_processes(self):
        self.assertIs(False, is_sentence(1, ("at", 1, "a", 0)))
        for count in range(1, 7):
            for process in range(-1, 8):
                expected = 0 <= process < count
                self.assertIs(expected, is_sentence(count, ("at", process, "a", 0)))
                self.assertIs(expected, is_sentence(count, ("sum", ((1, 0, "a"), (1, process, "a")), 0)))

    def test_count(self):
        self.assert_all(True, lambda count: is_sentence(count, ("way", 1)), [1, 2, 3, 4, 5, 6])
        self.assert_all(False, lambda count: is_sentence(count, ("way", 1)), [
            0, -1, 7, 100, True, False, None, "2", 2.0, [2], (2,), Hostile(), HostileInt(2), b"2", {}, 10 ** 30,
        ])

    def test_variables(self):
        for variable in ("a", "b", "c", "d"):
            self.assertIs(True, is_sentence(1, ("at", 0, variable, 0)))
            self.assertIs(True, is_sentence(1, ("sum", ((1, 0, variable),), 0)))
        for variable in ("e", "A", "", "ab", 0, None, b"a", ("a",), ["a"], True, Hostile()):
            self.assertIs(False, is_sentence(1, ("at", 0, variable, 0)))
            self.assertIs(False, is_sentence(1, ("sum", ((1, 0, variable),), 0)))

    def test_bounds(self):
        for bound in (-100000, -99999, -1, 0, 1, 100000):
            self.assertIs(True, is_sentence(1, ("at", 0, "a", bound)))
            self.assertIs(True, is_sentence(1, ("sum", ((1, 0, "a"),), bound)))
        for bound in (-100001, 100001, True, False, None, "0", 0.0, (0,), [0], Hostile(), HostileInt(1)):
            self.assertIs(False, is_sentence(1, ("at", 0, "a", bound)))
            self.assertIs(False, is_sentence(1, ("sum", ((1, 0, "a"),), bound)))

    def test_letters_under_way(self):
        self.assert_sentences(True, 1, [("way", number) for number in (0, 1, 998, 999)])
        self.assert_sentences(False, 1, [
            ("way", number) for number in (-1, 1000, True, False, None, "1", 1.0, (1,), [1], Hostile())
        ])

    def test_weights(self):
        for weight in range(-12, 13):
            self.assertIs(-9 <= weight <= 9, is_sentence(1, ("sum", ((weight, 0, "a"),), 0)))
        for weight in (True, False, None, "1", 1.0, (1,), [1], Hostile(), HostileInt(1)):
            self.assertIs(False, is_sentence(1, ("sum", ((weight, 0, "a"),), 0)))

    def test_number_of_terms(self):
        for many in range(9):
            self.assertIs(1 <= many <= 6, is_sentence(1, ("sum", ((1, 0, "a"),) * many, 0)), many)
        self.assertIs(True, is_sentence(2, ("sum", ((0, 0, "b"), (1, 1, "a"), (0, 0, "b")), 0)))

    def test_nesting(self):
        leaves = [("at", 0, "a", 0), ("way", 0), ("sum", ((1, 0, "a"),), 0)]
        for leaf in leaves:
            for depth in range(1, 10):
                deep = nested(depth, leaf)
                self.assertIs(depth <= 6, is_sentence(1, deep), deep)
        way = ("way", 1)
        for kind in ("and", "or"):
            self.assert_sentences(True, 1, [(kind, nested(5), way), (kind, way, nested(5)), (kind, nested(5), nested(5))])
            self.assert_sentences(False, 1, [(kind, nested(6), way), (kind, way, nested(6)), ("not", (kind, way, nested(5)))])

    def test_very_deep_and_very_wide(self):
        wide = ("way", 1)
        for _ in range(5):
            wide = ("and", wide, wide)
        self.assertIs(True, is_sentence(1, wide))
        for _ in range(100):
            wide = ("or", wide, wide)
        self.assertIs(False, is_sentence(1, wide))
        self.assertIs(False, is_sentence(1, nested(50000)))
        self.assertIs(False, is_sentence(1, ("sum", ((1, 0, "a"),) * 100000, 0)))

    def test_other_lengths_and_kinds(self):
        way = ("way", 1)
        self.assert_sentences(False, 2, [
            (), ("at",), ("at", 0), ("at", 0, "a"), ("at", 0, "a", 0, 0), ("at", "a", 0, 0), ("way",), ("way", 1, 1),
            ("sum",), ("sum", ((1, 0, "a"),)), ("sum", ((1, 0, "a"),), 0, 0), ("sum", (1, 0, "a"), 0), ("sum", 0, ()),
            ("not",), ("not", way, way), ("and",), ("and", way), ("and", way, way, way), ("or",), ("or", way),
            ("or", way, way, way), ("xor", way, way), ("At", 0, "a", 0), ("", 1), ("Not", way), (way,), way[0],
            ("total", ((1, 0, "a"),), 0), ("is", 0, "a", 0), ("under", 1), ("nor", way), ("nand", way, way),
            ["way", 1], ("not", ["way", 1]), ("sum", [(1, 0, "a")], 0), ("sum", ([1, 0, "a"],), 0),
            ("sum", ((1, 0),), 0), ("sum", ((1, 0, "a", 0),), 0), ("sum", (("a", 0, 1),), 0), ("sum", ((0, "a", 1),), 0),
            ("and", way, None), ("or", None, way), ("and", True, True), ("not", True), ("not", "way"), ("not", ()),
        ])

    def test_any_value_at_any_place(self):
        for sentence in (SENTENCE_110, ("or", ("way", 3), ("not", ("at", 0, "b", 1)))):
            self.assertIs(True, is_sentence(2, sentence))
            for value in replaced(sentence):
                self.assertIs(bool, type(is_sentence(2, value)))
        for value in other_values():
            self.assertIs(False, is_sentence(2, value))
            self.assertIs(False, is_sentence(value, ("way", 1)))


if __name__ == "__main__":
    unittest.main()

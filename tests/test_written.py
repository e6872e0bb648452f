"""Points 108 to 111: the texts of runs and of sentences."""

import unittest

from cutpapers.errors import BadRun, BadSentence, BadText
from cutpapers.forms import is_run, is_sentence
from cutpapers.written import read_run, read_sentence, write_run, write_sentence
from tests.samples import CROSSING, EMPTY_STEP, FULL_CHANGES, RUN_109, SENTENCE_110, TEXT_109, TEXT_110
from tests.samples import kinds, many_steps, nested, other_values, replaced, shown, small_runs

RUN_TEXTS = [
    (((),), ""),
    (((), ()), "\n"),
    (((),) * 6, "\n\n\n\n\n"),
    (((EMPTY_STEP,),), "step"),
    (((), (EMPTY_STEP, EMPTY_STEP), ()), "\nstep; step\n"),
    (((("step", FULL_CHANGES),),), "step a=1000 b=-1000 c=0 d=7"),
    (((("send", 999, ()),), (("take", 999, (("b", -1),)),)), "send 999\ntake 999 b=-1"),
    (((("send", 1, (("d", 10),)), ("take", 1, ())),), "send 1 d=10; take 1"),
    (((("step", (("a", 3),)), ("send", 7, ())), (("take", 7, ()),)), "step a=3; send 7\ntake 7"),
    (RUN_109, TEXT_109),
]

SENTENCE_TEXTS = [
    (("at", 0, "a", 0), "0.a >= 0"),
    (("at", 1, "d", -100000), "1.d >= -100000"),
    (("at", 1, "b", 100000), "1.b >= 100000"),
    (("way", 0), "way >= 0"),
    (("way", 999), "way >= 999"),
    (("sum", ((0, 0, "a"),), 0), "0*0.a >= 0"),
    (("sum", ((3, 0, "a"), (1, 1, "a")), 10), "3*0.a + 1*1.a >= 10"),
    (("sum", ((-9, 1, "c"),) * 6, -1), " + ".join(["-9*1.c"] * 6) + " >= -1"),
    (("not", ("way", 1)), "not (way >= 1)"),
    (("not", ("not", ("at", 0, "a", 5))), "not (not (0.a >= 5))"),
    (("or", ("way", 1), ("at", 1, "b", -4)), "(way >= 1) or (1.b >= -4)"),
    (("and", ("or", ("way", 1), ("way", 2)), ("way", 3)), "((way >= 1) or (way >= 2)) and (way >= 3)"),
    (("or", ("way", 1), ("and", ("way", 2), ("way", 3))), "(way >= 1) or ((way >= 2) and (way >= 3))"),
    (("not", ("and", ("way", 1), ("way", 2))), "not ((way >= 1) and (way >= 2))"),
    (("and", ("not", ("way", 1)), ("not", ("way", 2))), "(not (way >= 1)) and (not (way >= 2))"),
    (SENTENCE_110, TEXT_110),
]

# What takes the place of a piece of a text: the signs of the texts, and some others.
SIGNS = ["", " ", "  ", ";", "; ", "\n", "\r", "\t", "0", "1", "9", "-", "+", "=", ".", "*", "(", ")", ">=", " >= ", "a", "d",
         "e", "A", "step", "send", "take", "way", "not ", " and ", " or ", "\u0661", "\u00b2", "\u00a0", "_", ",", "%"]


def changed_texts(text):
    """Returns texts that differ from the text in one place."""
    texts = {text + text, text + "\n", "\n" + text, text.upper(), text.replace(" ", ""), text[::-1]}
    for place in range(len(text) + 1):
        for sign in SIGNS:
            texts.add(text[:place] + sign + text[place:])
            texts.add(text[:place] + sign + text[place + 1:])
    texts.discard(text)
    return sorted(texts)


def values_of_no_text():
    return [value for value in other_values() if type(value) is not str]


class TestWriteRun(unittest.TestCase):

    def test_the_texts(self):
        for run, text in RUN_TEXTS:
            self.assertEqual(text, write_run(run))
            self.assertIs(str, type(write_run(run)))

    def test_what_is_no_run(self):
        wrong = [
            (), ((),) * 7, many_steps(1, 31), [()], ([],), ((("take", 5, ()),),), ((("take", 5, ()), ("send", 5, ())),),
            ((("send", 0, ()),),), ((("step", (("b", 1), ("a", 1))),),), ((("step", (("a", 1), ("a", 1))),),),
            ((("step", (("a", True),)),),), ((("step", (("a", 1001),)),),), EMPTY_STEP, "step", "", None, 5,
            ((("send", 1, ()),), (("send", 1, ()),)), ((["step", ()],),), ((("step", (("a", 1.0),)),),),
        ]
        for value in wrong:
            with self.assertRaises(BadRun):
                write_run(value)

    def test_any_value(self):
        for value in list(replaced(RUN_109)) + other_values():
            if is_run(value):
                self.assertEqual(value, read_run(write_run(value)))
            else:
                with self.assertRaises(BadRun):
                    write_run(value)


class TestReadRun(unittest.TestCase):

    def assert_bad(self, texts):
        for text in texts:
            with self.assertRaises(BadText, msg=shown(text)):
                read_run(text)

    def test_the_texts(self):
        for run, text in RUN_TEXTS:
            self.assertEqual(kinds(run), kinds(read_run(text)))

    def test_what_was_written(self):
        runs = small_runs()[::5] + [CROSSING, many_steps(6, 30), ((),) * 6]
        runs += [((("step", (("a", value),)),),) for value in range(-1000, 1001)]
        for run in runs:
            self.assertEqual(kinds(run), kinds(read_run(write_run(run))))

    def test_each_run_has_its_own_text(self):
        runs = small_runs()
        self.assertEqual(len(set(runs)), len({write_run(run) for run in runs}))

    def test_spaces(self):
        self.assert_bad([
            " ", " step", "step ", "step  a=1", "step a =1", "step a= 1", "step a=1 ", "send  5", "send 5 ", "step;step",
            "step ; step", "step;  step", "step; step ", " \n", "step\n ", "step\ta=1", "send5", "step a=1b=2", "step\u00a0a=1",
        ])

    def test_ends_of_lines(self):
        self.assert_bad([
            "step;", "step; ", "; step", ";", "; ", "step;; step", "step; ; step", "step;\nstep", "\nstep;", "step\r\nstep",
            "step\r", "step\u2028step", "step\x0bstep",
        ])

    def test_integers(self):
        self.assert_bad([
            "step a=01", "step a=-0", "step a=+1", "step a=--1", "step a=", "step a=-", "step a=1.0", "step a=1_0", "step a=0x1",
            "send 05", "send -5", "send +5", "send 0", "send 1000", "send a", "send 0000005", "send \u0665", "step a=\u0661",
            "step a=1001", "step a=-1001", "step a=1000000", "step a=00", "send 1_0", "step a=" + "1" * 5000, "step a=\u00b2",
        ])

    def test_changes(self):
        self.assert_bad([
            "step b=1 a=1", "step a=1 a=1", "step a=1 a=2", "step a=1 c=1 b=1", "step e=1", "step A=1", "step =1", "step 1",
            "step a", "step a=1=1", "step ab=1", "step 1=a", "step a==1", "step 5", "step 5 a=1", "send 5 5", "send a=1",
            "send a=1 5", "send 5 b=1 a=1", "take a=1", "step a:1", "step a=b",
        ])

    def test_kinds(self):
        self.assert_bad(["Step", "STEP", "steps", "jump", "jump 5", "send", "take", "se", "a=1", "5", "None", "stepa=1", "send5"])

    def test_letters_of_the_run(self):
        self.assert_bad([
            "take 5", "take 5; send 5", "send 5; send 5", "send 5\nsend 5", "send 5\ntake 5\ntake 5", "send 5; take 5; take 5",
            "send 5\ntake 6", "take 1; send 2\ntake 2; send 1",
        ])
        self.assertTrue(read_run("send 2; take 1\nsend 1; take 2"))

    def test_sizes(self):
        self.assertEqual(6, len(read_run("\n" * 5)))
        self.assertEqual(30, len(read_run("; ".join(["step"] * 30))[0]))
        self.assert_bad(["\n" * 6, "; ".join(["step"] * 31), "\n" * 100000, "step; " * 100000])

    def test_what_is_no_string(self):
        self.assert_bad(values_of_no_text() + [None, 5, True, b"step", b"", ["step"], ("step",), RUN_109, [""], (), {}])

    def test_changed_texts(self):
        for run, text in RUN_TEXTS:
            for changed in changed_texts(text):
                try:
                    read = read_run(changed)
                except BadText:
                    continue
                self.assertIs(True, is_run(read))
                self.assertNotEqual(run, read)
                self.assertEqual(changed, write_run(read))


class TestWriteSentence(unittest.TestCase):

    def test_the_texts(self):
        for sentence, text in SENTENCE_TEXTS:
            self.assertEqual(text, write_sentence(2, sentence))
            self.assertIs(str, type(write_sentence(2, sentence)))

    def test_what_is_no_sentence(self):
        wrong = [
            None, "way >= 1", (), ("way",), ("way", -1), ("way", 1000), ("way", True), ["way", 1], ("at", 2, "a", 0),
            ("at", 0, "e", 0), ("at", 0, "a", 100001), ("sum", (), 0), ("sum", ((10, 0, "a"),), 0), ("not", None), nested(7),
            ("sum", ((1, 0, "a"),) * 7, 0), ("and", ("way", 1)), ("sum", ((1, 2, "a"),), 0),
        ]
        for value in wrong:
            with self.assertRaises(BadSentence):
                write_sentence(2, value)

    def test_count(self):
        self.assertEqual("0.a >= 1", write_sentence(1, ("at", 0, "a", 1)))
        self.assertEqual("5.a >= 1", write_sentence(6, ("at", 5, "a", 1)))
        for count in (0, 7, -1, True, None, "2", 2.0, [2]):
            with self.assertRaises(BadSentence):
                write_sentence(count, ("at", 0, "a", 1))
        with self.assertRaises(BadSentence):
            write_sentence(5, ("at", 5, "a", 1))

    def test_any_value(self):
        for value in list(replaced(SENTENCE_110)) + other_values():
            if not is_sentence(2, value):
                with self.assertRaises(BadSentence):
                    write_sentence(2, value)


class TestReadSentence(unittest.TestCase):

    def assert_bad(self, texts, count=2):
        for text in texts:
            with self.assertRaises(BadText, msg=shown(text)):
                read_sentence(count, text)

    def test_the_texts(self):
        for sentence, text in SENTENCE_TEXTS:
            self.assertEqual(kinds(sentence), kinds(read_sentence(2, text)))

    def test_what_was_written(self):
        sentences = [sentence for sentence, text in SENTENCE_TEXTS]
        plain = list(sentences)
        for kind in ("and", "or"):
            sentences += [(kind, one, other) for one in plain for other in plain]
        sentences += [("not", one) for one in sentences]
        sentences += [nested(depth, leaf) for depth in range(1, 7) for leaf in (("way", 0), ("at", 1, "c", -5))]
        for sentence in sentences:
            self.assertEqual(kinds(sentence), kinds(read_sentence(2, write_sentence(2, sentence))))
        self.assertEqual(len(set(sentences)), len({write_sentence(2, sentence) for sentence in sentences}))

    def test_the_refused_example(self):
        self.assert_bad(["(way >= 01) or (1.b >= -4)"])

    def test_spaces(self):
        self.assert_bad([
            "", " ", "way >=1", "way>= 1", "way>=1", "way  >= 1", "way >=  1", " way >= 1", "way >= 1 ", "way >= 1\n", "0 .a >= 1",
            "0. a >= 1", "0.a>=1", "1 *0.a >= 1", "1* 0.a >= 1", "1*0.a+1*0.b >= 1", "1*0.a +1*0.b >= 1", "1*0.a  + 1*0.b >= 1",
            "not(way >= 1)", "not  (way >= 1)", "not ( way >= 1)", "not (way >= 1) ", "(way >= 1)and (way >= 1)",
            "(way >= 1) and(way >= 1)", "(way >= 1)  and (way >= 1)", "(way >= 1) and (way >= 1 )",
        ])

    def test_integers(self):
        self.assert_bad([
            "way >= 01", "way >= -0", "way >= +1", "way >= -1", "way >= 1000", "way >= ", "way >= a", "0.a >= 01", "0.a >= -0",
            "0.a >= +1", "0.a >= 100001", "0.a >= -100001", "0.a >= 1000000", "00.a >= 1", "-0.a >= 1", "+0.a >= 1", "01.a >= 1",
            "2.a >= 1", "-1.a >= 1", "10*0.a >= 1", "-10*0.a >= 1", "01*0.a >= 1", "-0*0.a >= 1", "+1*0.a >= 1", "1*2.a >= 1",
            "1*00.a >= 1", "0.a >= 1_0", "0.a >= \u0661", "0.a >= " + "1" * 5000,
        ])

    def test_forms(self):
        self.assert_bad([
            "way", "way >= 1 >= 1", "way > 1", "way = 1", "WAY >= 1", "0.e >= 1", "0.A >= 1", "0. >= 1", ".a >= 1", "a >= 1",
            "0a >= 1", "0.ab >= 1", "0.a.b >= 1", "*0.a >= 1", "0.a* >= 1", "1*0.a + >= 1", "1*0.a +  >= 1", " + 1*0.a >= 1",
            "1*0.a + 0.b >= 1", "0.b + 1*0.a >= 1", "1*1*0.a >= 1", "1*0.a - 1*0.b >= 1", " >= 1", "0.a >= 1 + 1*0.b", "1*way >= 1",
            " + ".join(["1*0.a"] * 7) + " >= 0", "way >= 1*0.a", "0.a", "0.a >= 0.a",
        ])

    def test_parentheses(self):
        self.assert_bad([
            "(way >= 1)", "((way >= 1))", "not way >= 1", "not ((way >= 1))", "not (way >= 1", "not way >= 1)", "not ()", "not (",
            "()", "(", ")", "(way >= 1) and way >= 1", "way >= 1 and way >= 1", "way >= 1 and (way >= 1)", "(way >= 1) and (way >= 1",
            "(way >= 1) and (way >= 1))", "((way >= 1) and (way >= 1)", "((way >= 1) and (way >= 1))", "(way >= 1) xor (way >= 1)",
            "(way >= 1) and (way >= 1) and (way >= 1)", "(way >= 1) or (way >= 1) and (way >= 1)", "(way >= 1) and ()",
            "() and (way >= 1)", "not (way >= 1) and (way >= 1)", "not (way >= 1) or (not (way >= 1))", "(way >= 1) AND (way >= 1)",
            "(way >= 1) and", "(way >= 1) and (", "(way >= 1) (way >= 1)", "not not (way >= 1)", "not (not way >= 1)",
        ])

    def test_nesting(self):
        self.assertEqual(nested(6), read_sentence(1, "not (" * 5 + "way >= 1" + ")" * 5))
        self.assert_bad(["not (" * many + "way >= 1" + ")" * many for many in (6, 7, 20, 20000)])
        for kind in ("and", "or"):
            deep = "way >= 1"
            for _ in range(5):
                deep = f"({deep}) {kind} (way >= 1)"
            self.assertTrue(read_sentence(1, deep))
            self.assert_bad([f"({deep}) {kind} (way >= 1)", f"(way >= 1) {kind} ({deep})", f"not ({deep})"])
            self.assert_bad([
                "(" * 5000 + "way >= 1" + f") {kind} (way >= 1)" * 5000, f"(way >= 1) {kind} (" * 5000 + "way >= 1" + ")" * 5000,
            ])
        self.assert_bad(["(" * 100000, "(" * 100000 + ")" * 100000, "not (" * 100000, ")" * 100000])

    def test_count(self):
        for count in range(1, 7):
            self.assertEqual(("at", count - 1, "a", 0), read_sentence(count, f"{count - 1}.a >= 0"))
            self.assert_bad([f"{count}.a >= 0", f"1*{count}.a >= 0", f"(way >= 1) or ({count}.a >= 0)"], count)
        for count in (0, 7, -1, True, None, "2", 2.0, [2]):
            self.assert_bad(["way >= 1", "0.a >= 0"], count)

    def test_what_is_no_string(self):
        self.assert_bad(values_of_no_text() + [None, 5, True, b"way >= 1", ["way >= 1"], ("way", 1), (), {}])

    def test_changed_texts(self):
        for sentence, text in SENTENCE_TEXTS:
            for changed in changed_texts(text):
                try:
                    read = read_sentence(2, changed)
                except BadText:
                    continue
                self.assertIs(True, is_sentence(2, read))
                self.assertNotEqual(sentence, read)
                self.assertEqual(changed, write_sentence(2, read))


if __name__ == "__main__":
    unittest.main()

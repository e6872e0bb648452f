"""Points 800 to 804: the watcher, and promise 6.4."""

import time
import unittest
from itertools import permutations, product

from cutpapers.errors import BadRun, BadSentence, TooMany
from cutpapers.forms import is_event, is_run
from cutpapers.judge import takes
from cutpapers.order import Order
from cutpapers.tell import tell
from cutpapers.watcher import Watcher
from tests.samples import CROSSING, EMPTY_STEP, FULL_CHANGES, MEETING_OF_THREE, MEETING_OF_TWO, RUN_109, HostileInt, all_of
from tests.samples import at_least, kinds, many_steps, nested, other_values, places, replaced, shown, slow_is_run, step
from tests.searches import Numbers, large_runs, made_joint, made_run, made_runs, made_sentence, made_terms

SEND = ("send", 5, ())
TAKE = ("take", 5, (("a", 3),))
NEVER = ("not", ("way", 0))


def slow_known(count, fed):
    """Returns the greatest run of beginnings whose events were all fed, by trying all beginnings."""
    rows = []
    for process in range(count):
        row = []
        while (process, len(row) + 1) in fed:
            row.append(fed[(process, len(row) + 1)])
        rows.append(tuple(row))
    choices = product(*[[row[:many] for many in range(len(row) + 1)] for row in rows])
    runs = [choice for choice in choices if slow_is_run(choice)]
    greatest = max(runs, key=lambda run: sum(len(row) for row in run))
    assert all(len(row) <= len(other) for run in runs for row, other in zip(run, greatest))
    return greatest


def slow_fits(fed):
    """Returns whether the events can be put into one row, by looking for one that is before itself."""
    pairs = set()
    for one, other in product(fed, repeat=2):
        letter = fed[one][0] == "send" and fed[other][0] == "take" and fed[one][1] == fed[other][1]
        if letter or (one[0] == other[0] and one[1] < other[1]):
            pairs.add((one, other))
    for middle in fed:
        for one, other in product(fed, repeat=2):
            if (one, middle) in pairs and (middle, other) in pairs:
                pairs.add((one, other))
    return not any((place, place) in pairs for place in fed)


def slow_refuses(count, fed, process, index, event):
    """Returns whether the event is refused, by point 801. Its form is right."""
    if not 0 <= process < count or not 1 <= index <= 30:
        return True
    place = (process, index)
    if place in fed:
        return fed[place] != event
    if event[0] != "step" and any(other[:2] == event[:2] for other in fed.values()):
        return True
    return not slow_fits({**fed, place: event})


def told(run, order=None):
    """Returns a watcher to whom the events of the run were fed, at their places in this order."""
    watcher = Watcher(len(run))
    for process, index in places(run) if order is None else order:
        watcher.feed(process, index, run[process][index - 1])
    return watcher


class WatcherTest(unittest.TestCase):

    def assert_state(self, watcher, known, waiting):
        self.assertEqual(known, watcher.known())
        self.assertEqual(kinds(known), kinds(watcher.known()))
        self.assertEqual(waiting, watcher.waiting())
        self.assertEqual(kinds(tuple(waiting)), kinds(tuple(watcher.waiting())))
        self.assertIs(list, type(watcher.waiting()))

    def assert_refused(self, watcher, process, index, event):
        """Asserts that the event is refused, and nothing changes."""
        state = (watcher.known(), watcher.waiting())
        with self.assertRaises(BadRun, msg=shown((process, index, event))):
            watcher.feed(process, index, event)
        self.assertEqual(state, (watcher.known(), watcher.waiting()))


class TestCreation(WatcherTest):

    def test_nothing_was_fed(self):
        for count in range(1, 7):
            self.assert_state(Watcher(count), ((),) * count, [])

    def test_wrong_counts(self):
        for count in [0, 7, -1, 100, "2", b"2", (1,), [2], HostileInt(2), Watcher(1)] + other_values():
            with self.assertRaises(BadRun, msg=shown(count)):
                Watcher(count)


class TestFeed(WatcherTest):

    def test_the_example(self):
        watcher = Watcher(2)
        self.assertIsNone(watcher.feed(1, 1, ("take", 5, (("a", 3),))))
        self.assert_state(watcher, ((), ()), [(1, 1)])
        self.assertEqual((False, ("wall", (("false", 1),))), watcher.some(("at", 1, "a", 3), 100))
        self.assertIsNone(watcher.feed(0, 1, ("send", 5, ())))
        self.assert_state(watcher, ((("send", 5, ()),), (("take", 5, (("a", 3),)),)), [])
        self.assertEqual((True, ("cut", (1, 1))), watcher.some(("at", 1, "a", 3), 100))
        self.assert_refused(watcher, 0, 2, ("take", 5, ()))

    def test_the_process(self):
        for count in (1, 2, 6):
            watcher = Watcher(count)
            for process in (-1, count, count + 1, 10 ** 30, True, False, None, 0.0, "0", (0,), [0], HostileInt(0)):
                self.assert_refused(watcher, process, 1, EMPTY_STEP)
            for process in range(count):
                self.assertIsNone(watcher.feed(process, 1, EMPTY_STEP))
            self.assert_state(watcher, ((EMPTY_STEP,),) * count, [])
        for process in other_values():
            self.assert_refused(Watcher(2), process, 1, EMPTY_STEP)

    def test_the_index(self):
        watcher = Watcher(2)
        for index in [0, -1, 31, 32, 1000, True, False, 1.0, "1", (1,), HostileInt(1)] + other_values():
            self.assert_refused(watcher, 1, index, EMPTY_STEP)
        self.assertIsNone(watcher.feed(1, 30, EMPTY_STEP))
        self.assertIsNone(watcher.feed(1, 1, EMPTY_STEP))
        self.assert_state(watcher, ((), (EMPTY_STEP,)), [(1, 30)])

    def test_the_event(self):
        watcher = Watcher(2)
        for event in (SEND, TAKE, ("step", FULL_CHANGES)):
            wrong = [value for value in replaced(event) if not is_event(value)]
            self.assertGreater(len(wrong), 100)
            for value in wrong:
                self.assert_refused(watcher, 0, 1, value)
        for event in (
            ("send", 0, ()), ("send", 1000, ()), ("send", True, ()), ("step", (("a", 1001),)), ("step", 1, ()), ("take", 1),
            ("step", (("b", 1), ("a", 1))), ("step", (("e", 1),)), ["step", ()], ("step", []), ("wait", ()), "step", None,
        ):
            self.assert_refused(watcher, 0, 1, event)
        self.assert_state(watcher, ((), ()), [])

    def test_the_form_comes_first(self):
        # The event would be the one that was fed, if its form were right.
        watcher = told(((step(a=1),), (SEND,)))
        self.assert_refused(watcher, False, 1, step(a=1))
        self.assert_refused(watcher, 0, True, step(a=1))
        self.assert_refused(watcher, True, 1, SEND)
        self.assert_refused(watcher, 0, 1, step(a=True))
        self.assert_refused(watcher, 0, 1, step(a=1.0))
        self.assert_refused(watcher, 0, 1, ["step", (("a", 1),)])
        self.assert_refused(watcher, 0, 1, ("step", [("a", 1)]))

    def test_the_same_event_again(self):
        watcher = Watcher(3)
        feeds = [(0, 1, SEND), (1, 3, TAKE), (2, 1, step(a=1)), (2, 3, ("take", 9, ())), (0, 2, ("send", 9, ()))]
        for process, index, event in feeds:
            self.assertIsNone(watcher.feed(process, index, event))
            state = (watcher.known(), watcher.waiting())
            for _ in range(3):
                self.assertIsNone(watcher.feed(process, index, (event[0],) + tuple(event[1:])))
                self.assertEqual(state, (watcher.known(), watcher.waiting()))
        self.assert_state(watcher, ((SEND, ("send", 9, ())), (), (step(a=1),)), [(1, 3), (2, 3)])

    def test_another_event_for_a_place(self):
        events = [
            EMPTY_STEP, step(a=0), step(a=1), step(b=1), step(a=1, b=1), SEND, ("send", 6, ()), ("send", 5, (("a", 3),)),
            TAKE, ("take", 5, ()), ("take", 6, (("a", 3),)),
        ]
        for index in (1, 2, 30):
            for event in events:
                watcher = Watcher(2)
                watcher.feed(0, index, event)
                for other in events:
                    if other != event:
                        self.assert_refused(watcher, 0, index, other)
                self.assertIsNone(watcher.feed(0, index, event))

    def test_a_letter_that_is_used_twice(self):
        for first, second in ((SEND, ("send", 5, (("a", 1),))), (TAKE, ("take", 5, ())), (SEND, SEND), (TAKE, TAKE)):
            for place in ((0, 1), (0, 3), (1, 2), (1, 30)):
                watcher = Watcher(2)
                watcher.feed(0, 2, first)
                if place != (0, 2):
                    self.assert_refused(watcher, place[0], place[1], second)
                    # The place is still free, and another letter too.
                    self.assertIsNone(watcher.feed(place[0], place[1], (second[0], 6, ())))

    def test_a_refused_letter_can_still_be_used(self):
        watcher = told(((step(a=1), SEND), ()))
        self.assert_refused(watcher, 0, 1, ("send", 6, ()))
        self.assert_refused(watcher, 0, 1, ("take", 6, ()))
        self.assert_refused(watcher, 0, 1, ("take", 5, ()))
        self.assertIsNone(watcher.feed(1, 2, ("send", 6, ())))
        self.assertIsNone(watcher.feed(1, 1, ("take", 5, ())))
        self.assertIsNone(watcher.feed(1, 3, ("take", 6, ())))
        self.assert_state(watcher, ((step(a=1), SEND), (("take", 5, ()), ("send", 6, ()), ("take", 6, ()))), [])

    def test_a_process_that_takes_before_it_sends(self):
        watcher = Watcher(2)
        watcher.feed(0, 4, TAKE)
        for index in (5, 6, 30):
            self.assert_refused(watcher, 0, index, SEND)
        self.assertIsNone(watcher.feed(0, 2, SEND))
        watcher = Watcher(2)
        watcher.feed(0, 4, SEND)
        for index in (3, 1):
            self.assert_refused(watcher, 0, index, TAKE)
        self.assertIsNone(watcher.feed(0, 30, TAKE))
        self.assert_state(watcher, ((), ()), [(0, 4), (0, 30)])

    def test_a_circle_of_two_letters_among_events_that_wait(self):
        circle = {(0, 4): ("take", 2, ()), (0, 7): ("send", 1, ()), (1, 9): ("take", 1, ()), (1, 20): ("send", 2, ())}
        self.assert_circle(2, circle)

    def test_a_circle_over_several_processes(self):
        circle = {}
        for process in range(6):
            circle[(process, 3)] = ("take", process + 1, ())
            circle[(process, 5)] = ("send", (process + 1) % 6 + 1, ())
        self.assert_circle(6, circle)

    def assert_circle(self, count, circle):
        """Asserts that all but one of the events can be fed, whichever is the last one."""
        for last in circle:
            watcher = Watcher(count)
            for place in sorted(circle, reverse=sum(last) % 2 == 0):
                if place != last:
                    self.assertIsNone(watcher.feed(place[0], place[1], circle[place]))
            waiting = sorted(place for place in circle if place != last)
            self.assert_state(watcher, ((),) * count, waiting)
            self.assert_refused(watcher, last[0], last[1], circle[last])
            # The place is free for others, and the letter has other places.
            self.assertIsNone(watcher.feed(last[0], last[1], EMPTY_STEP))
            earlier = 1 if circle[last][0] == "send" else 30
            self.assertIsNone(watcher.feed(last[0], earlier, circle[last]))

    def test_a_circle_that_only_the_numbers_close(self):
        watcher = Watcher(2)
        watcher.feed(1, 1, ("take", 1, ()))
        watcher.feed(1, 2, ("send", 2, ()))
        watcher.feed(0, 3, ("send", 1, ()))
        self.assert_refused(watcher, 0, 2, ("take", 2, ()))
        self.assert_refused(watcher, 0, 1, ("take", 2, ()))
        self.assertIsNone(watcher.feed(0, 4, ("take", 2, ())))

    def test_events_from_behind(self):
        for run in (many_steps(1, 30), many_steps(3, 4), RUN_109):
            watcher = Watcher(len(run))
            fed = {}
            for process, index in reversed(places(run)):
                watcher.feed(process, index, run[process][index - 1])
                fed[(process, index)] = run[process][index - 1]
                self.assertEqual(slow_known(len(run), fed), watcher.known())
            self.assert_state(watcher, run, [])
        watcher = Watcher(1)
        for index in range(30, 1, -1):
            watcher.feed(0, index, many_steps(1, 30)[0][index - 1])
            self.assert_state(watcher, ((),), [(0, other) for other in range(index, 31)])

    def test_takes_ahead_of_their_sends(self):
        run = ((("take", 2, ()), ("send", 3, ())), (("send", 1, ()), ("take", 3, ())), (("take", 1, ()), ("send", 2, ())))
        watcher = told(run, [(0, 1), (0, 2), (1, 2), (2, 1), (2, 2)])
        self.assert_state(watcher, ((), (), ()), [(0, 1), (0, 2), (1, 2), (2, 1), (2, 2)])
        watcher.feed(1, 1, run[1][0])
        self.assert_state(watcher, run, [])

    def test_known_stops_at_a_take_whose_send_waits(self):
        watcher = Watcher(2)
        watcher.feed(0, 1, EMPTY_STEP)
        watcher.feed(0, 3, SEND)
        watcher.feed(1, 1, step(a=1))
        watcher.feed(1, 2, TAKE)
        watcher.feed(1, 3, step(a=2))
        self.assert_state(watcher, ((EMPTY_STEP,), (step(a=1),)), [(0, 3), (1, 2), (1, 3)])
        watcher.feed(0, 2, ("send", 7, ()))
        self.assert_state(watcher, ((EMPTY_STEP, ("send", 7, ()), SEND), (step(a=1), TAKE, step(a=2))), [])

    def test_letters_that_are_never_sent(self):
        watcher = told(((("take", 1, ()), SEND), (TAKE, step(a=1)), (EMPTY_STEP,)))
        self.assert_state(watcher, ((), (), (EMPTY_STEP,)), [(0, 1), (0, 2), (1, 1), (1, 2)])

    def test_made_feeds(self):
        numbers = Numbers(91)
        accepted = refused = 0
        for turn in range(150):
            count = 1 + turn % 3
            watcher = Watcher(count)
            fed = {}
            for _ in range(20):
                feed = self.made_feed(numbers, count, fed)
                if slow_refuses(count, fed, *feed):
                    refused += 1
                    self.assert_refused(watcher, *feed)
                else:
                    accepted += 1
                    self.assertIsNone(watcher.feed(*feed))
                    fed[feed[:2]] = feed[2]
                known = slow_known(count, fed)
                self.assert_state(watcher, known, sorted(place for place in fed if place[1] > len(known[place[0]])))
        self.assertGreater(min(accepted, refused), 1000)

    def made_feed(self, numbers, count, fed):
        """Returns something to feed, which is refused now and then."""
        if fed and numbers.below(6) == 0:
            place = numbers.one_of(sorted(fed))
            return place + (fed[place],)
        word = numbers.one_of(["step", "send", "send", "take", "take"])
        changes = numbers.one_of([(), (), (("a", 1),)])
        event = ("step", changes) if word == "step" else (word, numbers.between(1, 5), changes)
        process = numbers.between(-1 if numbers.below(9) == 0 else 0, count - 1)
        return process, numbers.between(0 if numbers.below(9) == 0 else 1, 5), event


class TestKnownAndWaiting(WatcherTest):

    def test_a_changed_list(self):
        watcher = Watcher(2)
        watcher.feed(0, 2, SEND)
        watcher.feed(1, 1, TAKE)
        changed = watcher.waiting()
        changed.append((0, 1))
        changed[0] = None
        self.assert_state(watcher, ((), ()), [(0, 2), (1, 1)])
        changed.clear()
        self.assert_state(watcher, ((), ()), [(0, 2), (1, 1)])
        self.assertIsNot(watcher.waiting(), watcher.waiting())

    def test_two_watchers_share_nothing(self):
        one, other = Watcher(2), Watcher(2)
        one.feed(0, 1, SEND)
        self.assert_state(other, ((), ()), [])
        other.feed(1, 1, SEND)
        other.feed(0, 1, step(a=1))
        one.feed(1, 2, TAKE)
        other.feed(1, 4, TAKE)
        self.assert_state(one, ((SEND,), ()), [(1, 2)])
        self.assert_state(other, ((step(a=1),), (SEND,)), [(1, 4)])

    def test_asking_changes_nothing(self):
        watcher = Watcher(2)
        watcher.feed(0, 2, SEND)
        watcher.feed(1, 1, TAKE)
        for _ in range(3):
            self.assert_state(watcher, ((), ()), [(0, 2), (1, 1)])
            watcher.some(at_least(1, 3), 10)
            watcher.some(("way", 1), 10)
        watcher.feed(0, 1, EMPTY_STEP)
        self.assert_state(watcher, ((EMPTY_STEP, SEND), (TAKE,)), [])

    def test_what_was_known_does_not_change_later(self):
        watcher = Watcher(1)
        before = watcher.known()
        watcher.feed(0, 1, EMPTY_STEP)
        after = watcher.known()
        watcher.feed(0, 2, EMPTY_STEP)
        self.assertEqual((((),), ((EMPTY_STEP,),)), (before, after))

    def test_the_events_are_not_changed(self):
        events = (("send", 5, FULL_CHANGES), ("take", 5, (("a", 1),)), EMPTY_STEP)
        copy = kinds(events)
        watcher = Watcher(1)
        for index, event in enumerate(events, start=1):
            watcher.feed(0, index, event)
        watcher.some(("way", 2), 10)
        self.assertEqual(copy, kinds(events))
        self.assertEqual((events,), watcher.known())

    def test_a_whole_run_in_each_order(self):
        runs = [
            MEETING_OF_TWO, ((SEND, ("take", 6, ())), (TAKE, ("send", 6, ()), EMPTY_STEP)),
            ((EMPTY_STEP, SEND, TAKE), (), (EMPTY_STEP,)),
            ((("take", 2, ()),), (("take", 1, ()), ("send", 2, ())), (EMPTY_STEP, ("send", 1, ()))),
        ]
        for run in runs:
            for order in permutations(places(run)):
                self.assert_state(told(run, order), run, [])

    def test_the_known_run_only_grows(self):
        numbers = Numbers(92)
        for run in made_runs()[::3] + [CROSSING, MEETING_OF_THREE]:
            watcher = Watcher(len(run))
            before = watcher.known()
            for process, index in numbers.shuffled(places(run)):
                watcher.feed(process, index, run[process][index - 1])
                known = watcher.known()
                self.assertTrue(is_run(known))
                self.assertTrue(all(row[:len(old)] == old for row, old in zip(known, before)))
                self.assertTrue(all(row == whole[:len(row)] for row, whole in zip(known, run)))
                before = known
            self.assert_state(watcher, run, [])

    def test_a_part_of_a_run_in_several_orders(self):
        numbers = Numbers(93)
        for run in made_runs()[::4] + [CROSSING, MEETING_OF_THREE]:
            fed = [place for place in places(run) if numbers.below(8) > 0]
            expected = slow_known(len(run), {place: run[place[0]][place[1] - 1] for place in fed})
            waiting = [place for place in fed if place[1] > len(expected[place[0]])]
            for order in [fed, fed[::-1]] + [numbers.shuffled(fed) for _ in range(4)]:
                self.assert_state(told(run, order), expected, waiting)
                self.assert_state(told(run, order + order[::-1]), expected, waiting)


class TestSome(WatcherTest):

    def test_sentences_of_all_kinds(self):
        watcher = told((((("send", 1, (("a", 2),))), step(a=1)), (("take", 1, (("a", 3),)),)))
        self.assertEqual((True, ("cut", (1, 1))), watcher.some(all_of(at_least(0, 2), at_least(1, 3)), 0))
        self.assertEqual((False, ("wall", (("false", 0), ("false", 0), ("false", 0)))), watcher.some(at_least(0, 3), 0))
        terms = ((1, 0, "a"), (1, 1, "a"))
        self.assertEqual((True, ("cut", (1, 1))), watcher.some(("sum", terms, 5), 0))
        self.assertEqual((False, "flow"), (watcher.some(("sum", terms, 6), 0)[0], watcher.some(("sum", terms, 6), 0)[1][0]))
        self.assertEqual((True, ("cut", (1, 0))), watcher.some(("way", 1), 5))
        self.assertEqual((False, ("closed", ((0, 0), (1, 0), (1, 1), (2, 0), (2, 1)))), watcher.some(("way", 2), 5))
        self.assert_state(watcher, (((("send", 1, (("a", 2),))), step(a=1)), (("take", 1, (("a", 3),)),)), [])

    def test_only_the_known_run_counts(self):
        watcher = Watcher(2)
        watcher.feed(0, 2, step(a=5))
        watcher.feed(1, 1, ("send", 4, ()))
        self.assertEqual((False, ("wall", (("false", 0),))), watcher.some(at_least(0, 5), 1))
        self.assertEqual((True, ("cut", (0, 1))), watcher.some(("way", 1), 2))
        watcher.feed(0, 1, ("take", 6, ()))
        self.assertEqual((False, ("wall", (("false", 0),))), watcher.some(at_least(0, 5), 1))
        watcher.feed(1, 2, ("send", 6, ()))
        self.assertEqual((True, ("cut", (2, 2))), watcher.some(at_least(0, 5), 1))
        self.assertEqual((True, ("cut", (0, 2))), watcher.some(("way", 2), 9))

    def test_what_is_no_sentence(self):
        watcher = told(((SEND,), (TAKE,)))
        watcher.feed(1, 3, EMPTY_STEP)
        wrong = [
            at_least(2, 0), at_least(-1, 0), at_least(True, 0), ("at", 0, "e", 0), ("way", 1000), ("way", -1), ("sum", (), 0),
            ("sum", ((1, 2, "a"),), 0), ("and", ("way", 1)), ["way", 1], ("not", None), ("at", 0, "a", 100001),
            ("at", 0, "a", True), nested(7),
        ]
        for sentence in wrong + other_values():
            for most in (100, 0):
                with self.assertRaises(BadSentence, msg=shown(sentence)):
                    watcher.some(sentence, most)
        self.assert_state(watcher, ((SEND,), (TAKE,)), [(1, 3)])

    def test_the_count_of_the_watcher_and_not_what_is_known(self):
        for count in range(1, 7):
            watcher = Watcher(count)
            self.assertEqual((True, ("cut", (0,) * count)), watcher.some(at_least(count - 1, 0), 1))
            with self.assertRaises(BadSentence):
                watcher.some(at_least(count, 0), 1)

    def test_too_many_cuts(self):
        watcher = told(((SEND, EMPTY_STEP), (TAKE,)))
        watcher.feed(0, 4, EMPTY_STEP)
        for sentence in (("way", 2), ("way", 0), NEVER, ("or", at_least(0, 1), at_least(1, 1))):
            for most in (4, 1, 0, -1):
                with self.assertRaises(TooMany):
                    watcher.some(sentence, most)
                self.assert_state(watcher, ((SEND, EMPTY_STEP), (TAKE,)), [(0, 4)])
            watcher.some(sentence, 5)
        watcher.feed(0, 3, EMPTY_STEP)
        with self.assertRaises(TooMany):
            watcher.some(("way", 2), 5)

    def test_as_telling(self):
        numbers = Numbers(94)
        for run in made_runs()[::2] + [CROSSING, MEETING_OF_TWO]:
            count = len(run)
            watcher = Watcher(count)
            sentences = [made_sentence(numbers, count, numbers.between(1, 4)), made_joint(numbers, count, numbers.between(1, 3))]
            sentences.append(("sum", made_terms(numbers, count), numbers.between(0, 5)))
            fulfilled = {}
            for process, index in numbers.shuffled(places(run)):
                watcher.feed(process, index, run[process][index - 1])
                order = Order(watcher.known())
                for sentence in sentences:
                    answer, paper = watcher.some(sentence, 10 ** 6)
                    self.assertEqual(tell(order, "some", sentence, 10 ** 6), (answer, paper))
                    self.assertIs(True, takes(order, "some", sentence, answer, paper))
                    # An answer True stays True, and its paper is taken for ever.
                    if sentence in fulfilled:
                        self.assertIs(True, answer)
                        self.assertIs(True, takes(order, "some", sentence, True, fulfilled[sentence]))
                    if answer:
                        fulfilled[sentence] = paper

    def test_the_same_answers_for_each_order_of_feeding(self):
        numbers = Numbers(95)
        for run in (MEETING_OF_TWO, ((SEND, step(a=4)), (TAKE, step(a=0)))):
            sentences = [made_sentence(numbers, 2, numbers.between(1, 3)) for _ in range(4)]
            sentences += [at_least(0, 1), ("sum", ((1, 1, "a"),), 3)]
            expected = [tell(Order(run), "some", sentence, 100) for sentence in sentences]
            for order in permutations(places(run)):
                watcher = told(run, order)
                self.assertEqual(expected, [watcher.some(sentence, 100) for sentence in sentences])
        for run in made_runs()[::9]:
            sentences = [made_sentence(numbers, len(run), numbers.between(1, 3)) for _ in range(3)]
            expected = [tell(Order(run), "some", sentence, 10 ** 6) for sentence in sentences]
            for _ in range(3):
                watcher = told(run, numbers.shuffled(places(run)))
                self.assertEqual(expected, [watcher.some(sentence, 10 ** 6) for sentence in sentences])

    def test_large_runs(self):
        numbers = Numbers(96)
        for run in large_runs()[::2] + [many_steps(6, 30), made_run(numbers, [30] * 6, 10)]:
            self.assert_large(run, numbers.shuffled(places(run)), numbers)
            self.assert_large(run, places(run)[::-1], numbers)

    def assert_large(self, run, order, numbers):
        begin = time.process_time()
        watcher = Watcher(6)
        asked = [("sum", made_terms(numbers, 6), 20), made_joint(numbers, 6, 2)]
        asked.append(all_of(*[at_least(process, 1) for process in range(5)]))
        for at, (process, index) in enumerate(order):
            watcher.feed(process, index, run[process][index - 1])
            known = watcher.known()
            self.assertEqual(at + 1, sum(len(row) for row in known) + len(watcher.waiting()))
            if at % 20 == 0 or at > 170:
                for sentence in asked:
                    answer, paper = watcher.some(sentence, 0)
                    self.assertIs(True, takes(Order(known), "some", sentence, answer, paper))
        self.assert_state(watcher, run, [])
        self.assertLess(time.process_time() - begin, 3)


if __name__ == "__main__":
    unittest.main()

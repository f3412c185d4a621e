"""Points 7 and 18, as far as they speak of one clock."""

import unittest

from farasnothing.errors import BadChanges, BadCount, BadModel, NoStation, Over
from farasnothing.oneclock import Clock
from tests import oracle
from tests.checks import Checks
from tests.samples import MODEL, RING, Maker, any_values

GREAT = 10 ** 40


def told(clock, model):
    """All that a clock tells."""
    return clock.deeds, clock.all_items(), tuple([clock.worths(station[0]) for station in model[1]])


class OneClock(Checks, unittest.TestCase):

    def test_the_example(self):
        clock = Clock(MODEL)
        self.assertEqual(clock.deeds, ())
        self.assertEqual(clock.all_items(), (((0, 0), 'tap', 'a', 1), ((2, 0), 'tap', 'a', 3)))
        deeds = [((0, 0), 'tap', 'a', 1, (), ()), ((2, 0), 'tap', 'a', 3, ((0, 0, (6, 0), 4),), ()),
                 ((3, 0), 'tap', 'bell', 0, ((0, 1, (7, 0), 1),), ()), ((6, 0), 'sink', 'b', 4, (), (4,)),
                 ((7, 0), 'sink', 'b', 1, (), (1,))]
        self.assertEqual(list(clock.run(9)), deeds)
        self.assertEqual(clock.deeds, tuple(deeds))
        self.assertEqual(clock.all_items(), ())

    def follow(self, model, changes, many=60):
        """Compares a clock with the plain words of the document, deed by deed."""
        clock, plain = Clock(model, changes=changes), oracle.OneClock(model, changes)
        for _ in range(many):
            self.assertEqual(clock.all_items(), plain.told_items())
            for station in model[1]:
                self.assertEqual(clock.worths(station[0]), plain.worths[station[0]])
            deed = plain.step()
            if deed is None:
                self.assertRaises(Over, clock.step)
                break
            self.assertEqual(clock.step(), deed)
            self.assertEqual(clock.deeds, tuple(plain.deeds))
        return len(plain.deeds)

    def test_made_models(self):
        many = [self.follow(Maker(seed).model(), ()) for seed in range(400)]
        self.assertGreater(len([one for one in many if one > 20]), 40)

    def test_made_models_with_changes(self):
        for seed in range(400):
            maker = Maker(seed)
            model = maker.model()
            self.follow(model, maker.changes(model))

    def test_the_sequence_at_one_stamp(self):
        say = (('say', 'it'),)
        one = ('z', (), ('d', 'c'), (), ('b', 'a'), (say, say, say, say))
        other = ('y', (), ('c',), (), ('k',), (say, say))
        first = ((3, 'y', 'c', 2), (3, 'y', 'k', 0), (3, 'z', 'c', 1), (3, 'z', 'a', 0), (3, 'z', 'd', 4),
                 (3, 'z', 'd', 2), (3, 'z', 'b', 0), (3, 'y', 'c', 1), (2, 'y', 'c', 3))
        deeds = [deed[1:4] for deed in Clock((5, (one, other), (), first)).run(99)]
        self.assertEqual(deeds, [('y', 'c', 3), ('z', 'b', 0), ('z', 'a', 0), ('z', 'd', 4), ('z', 'd', 2),
                                 ('z', 'c', 1), ('y', 'k', 0), ('y', 'c', 2), ('y', 'c', 1)])

    def test_letters_of_a_line_by_their_numbers(self):
        one = ('a', (), ('i',), ('o',), (), ((('send', 'o', 3), ('send', 'o', 1), ('send', 'o', 2)),))
        other = ('b', (), ('i',), (), (), ((('say', 'it'),),))
        model = (4, (one, other), (('a', 'o', 'b', 'i', 0),), ((1, 'a', 'i', 0), (1, 'a', 'i', 0)))
        deeds = list(Clock(model).run(99))
        self.assertEqual(deeds[0][4], ((0, 0, (1, 1), 3), (0, 1, (1, 1), 1), (0, 2, (1, 1), 2)))
        self.assertEqual(deeds[1][4], ((0, 3, (1, 1), 3), (0, 4, (1, 1), 1), (0, 5, (1, 1), 2)))
        self.assertEqual([deed[5] for deed in deeds[2:]], [(3,), (1,), (2,), (3,), (1,), (2,)])

    def test_alarms(self):
        def ringing(program, first=((0, 's', 'i', 0), (1, 's', 'i', 1), (2, 's', 'i', 2))):
            station = ('s', (), ('i',), (), ('a',), ((('say', 1),), (program,)))
            return [(deed[0], deed[2]) for deed in Clock((5, (station,), (), first)).run(99)]
        anew = ringing(('wait', 'a', 3))
        self.assertEqual(anew, [((0, 0), 'i'), ((1, 0), 'i'), ((2, 0), 'i'), ((5, 0), 'a')])
        at_once = ringing(('wait', 'a', 0))
        self.assertEqual(at_once, [((0, 0), 'i'), ((0, 1), 'a'), ((1, 0), 'i'), ((1, 1), 'a'), ((2, 0), 'i'),
                                   ((2, 1), 'a')])
        dropped = ringing(('drop', 'a'), ((4, 's', 'a', 0), (3, 's', 'i', 0)))
        self.assertEqual(dropped, [((3, 0), 'i')])
        first_of_all = ringing(('drop', 'a'), ((3, 's', 'a', 0), (3, 's', 'i', 0)))
        self.assertEqual(first_of_all, [((3, 0), 'a'), ((3, 0), 'i')])

    def test_an_alarm_that_rings_is_no_longer_set(self):
        def ringing(program):
            station = ('s', (('n', 0),), (), (), ('a',), (program,))
            clock = Clock((3, (station,), (), ((1, 's', 'a', 0),)))
            return [deed[0] for deed in clock.run(3)], clock.all_items()
        self.assertEqual(ringing(()), ([(1, 0)], ()))
        self.assertEqual(ringing((('drop', 'a'),)), ([(1, 0)], ()))
        self.assertEqual(ringing((('wait', 'a', 0),)), ([(1, 0), (1, 1), (1, 2)], (((1, 3), 's', 'a', 0),)))
        self.assertEqual(ringing((('wait', 'a', 2),)), ([(1, 0), (3, 0), (5, 0)], (((7, 0), 's', 'a', 0),)))

    def test_letters_on_an_out_without_a_line_are_nothing(self):
        station = ('s', (), ('i',), ('o',), (), ((('send', 'o', 1), ('say', 1)),))
        clock = Clock((2, (station,), (), ((1, 's', 'i', 0),)))
        self.assertEqual(clock.step(), ((1, 0), 's', 'i', 0, (), (1,)))
        self.assertEqual(clock.all_items(), ())

    def test_a_ring_without_delay_stays_at_one_time(self):
        station = ('s', (), ('i',), ('o',), ('k',), ((('send', 'o', 1),), (('send', 'o', 'it'),)))
        model = (2, (station,), (('s', 'o', 's', 'i', 0),), ((4, 's', 'k', 0),))
        self.assertEqual([deed[0] for deed in Clock(model).run(50)], [(4, turn) for turn in range(50)])

    def sender(self, changes, times, delay=4):
        """The stamps of letters that are sent at these times on a line that is changed."""
        one = ('a', (), ('i',), ('o',), (), ((('send', 'o', 1),),))
        other = ('b', (), ('i',), (), (), ((),))
        first = tuple([(time, 'a', 'i', 0) for time in times])
        model = (2, (one, other), (('a', 'o', 'b', 'i', delay),), first)
        deeds = list(Clock(model, changes=changes).run(99))
        return [deed[4][0][2] for deed in deeds if deed[1] == 'a']

    def test_changes_of_one_line(self):
        changes = (((5, 0), 0, 2), ((2, 0), 0, 7), ((8, 0), 0, 0))
        self.assertEqual(self.sender((), (0, 2, 5)), [(4, 0), (6, 0), (9, 0)])
        for told in (changes, changes[::-1]):
            self.assertEqual(self.sender(told, (1, 2, 8, 20)), [(5, 0), (9, 0), (9, 0), (20, 1)])
            self.assertEqual(self.sender(told, (5, 7, 8)), [(7, 0), (9, 0), (9, 0)])
        self.assertEqual(self.sender((((5, 1), 0, 0),), (5, 6)), [(9, 0), (9, 0)])
        self.assertEqual(self.sender((((5, 0), 0, 20),), (4, 5)), [(8, 0), (25, 0)])

    def test_no_letter_overtakes_another_one(self):
        self.assertEqual(self.sender((((1, 0), 0, 0),), (0, 1, 2, 4, 5)), [(4, 0), (4, 0), (4, 0), (4, 1), (5, 1)])

    def test_two_lines_changed_at_one_stamp(self):
        one = ('a', (), ('i',), ('o', 'p'), (), ((('send', 'p', 1), ('send', 'o', 1)),))
        other = ('b', (), ('i', 'j'), (), (), ((), ()))
        lines = (('a', 'o', 'b', 'i', 4), ('a', 'p', 'b', 'j', 4))
        clock = Clock((2, (one, other), lines, ((3, 'a', 'i', 0),)), changes=(((3, 0), 1, 1), ((3, 0), 0, 2)))
        self.assertEqual(clock.step()[4], ((1, 0, (4, 0), 1), (0, 0, (5, 0), 1)))

    def test_changes_with_stamps_of_any_size(self):
        self.assertEqual(self.sender((((GREAT, GREAT), 0, 1),), (0, GREAT, GREAT + 1)),
                         [(4, 0), (GREAT + 4, 0), (GREAT + 4, 0)])

    def test_run(self):
        clock = Clock(MODEL)
        self.assertEqual(list(clock.run(0)), [])
        self.assertEqual(len(list(clock.run(2))), 2)
        deeds = clock.run(GREAT)
        self.assertEqual(next(deeds)[0], (3, 0))
        self.assertEqual(clock.step()[0], (6, 0))
        self.assertEqual(next(deeds)[0], (7, 0))
        self.assertEqual(list(deeds), [])
        self.assertEqual(list(clock.run(3)), [])
        self.assertRaises(Over, clock.step)
        self.assertEqual(len(clock.deeds), 5)
        self.assertEqual(list(Clock(MODEL).run(many=1)), [((0, 0), 'tap', 'a', 1, (), ())])

    def test_a_bad_count_is_told_when_the_first_deed_is_requested(self):
        for value in any_values():
            if type(value) is int and value >= 0:
                continue
            clock = Clock(MODEL)
            deeds = clock.run(value)
            with self.assertRaises(BadCount) as caught:
                next(deeds)
            self.assertIs(caught.exception.value, value)
            self.assertEqual(clock, Clock(MODEL))

    def test_equal_clocks(self):
        clock, other = Clock(MODEL), Clock(MODEL)
        self.assertTrue(clock == other)
        self.assertFalse(clock != other)
        clock.step()
        self.assertFalse(clock == other)
        self.assertTrue(clock != other)
        other.step()
        self.assertTrue(clock == other)

    def test_clocks_with_other_lines_and_programs_may_be_equal(self):
        longer = MODEL[:2] + ((MODEL[2][0][:4] + (9,),),) + MODEL[3:]
        self.assertTrue(Clock(MODEL) == Clock(longer))
        self.assertTrue(Clock(MODEL) == Clock(MODEL, changes=(((0, 0), 0, 9),)))
        self.assertTrue(Clock(RING) == Clock(RING[:2] + ((),) + RING[3:]))

    def test_unequal_clocks(self):
        def station(name, worth):
            return (name, (('c', worth),), ('i',), (), (), ((),))
        def clock(name='s', worth=0, first=()):
            return Clock((3, (station(name, worth),), (), first))
        self.assertTrue(clock() == clock())
        self.assertFalse(clock() == clock(name='u'))
        self.assertFalse(clock() == clock(worth=1))
        self.assertFalse(clock() == clock(first=((0, 's', 'i', 0),)))
        taken = clock(first=((0, 's', 'i', 0),))
        taken.step()
        self.assertEqual(taken.all_items(), clock().all_items())
        self.assertFalse(taken == clock())

    def test_a_clock_equals_nothing_else(self):
        class Anything:
            def __eq__(self, other):
                return True
        clock = Clock(MODEL)
        for value in [*any_values(), Clock, object(), told(clock, MODEL), clock.deeds, Anything()]:
            self.assertFalse(clock == value)
        self.assertFalse(clock == clock.content())

    def test_wrong_models_and_changes(self):
        for value in any_values():
            self.assertRaisesWith(BadModel, value, Clock, value, changes=value)
            self.assertRaisesWith(BadModel, value, Clock, model=value)
            if value != ():
                self.assertRaisesWith(BadChanges, value, Clock, MODEL, changes=value)
                changes = (value,)
                self.assertRaisesWith(BadChanges, changes, Clock, MODEL, changes=changes)
        right = ((3, 0), 0, 1)
        for at in range(3):
            for value in any_values():
                change = right[:at] + (value,) + right[at + 1:]
                is_right = type(value) is int and 0 <= value <= (0, 0, 20)[at] if at else value in ((0, 0), (1, 2))
                if not is_right:
                    changes = (right, change)
                    self.assertRaisesWith(BadChanges, changes, Clock, MODEL, changes=changes)

    def test_which_changes_are_bad(self):
        for delay in (0, 20):
            Clock(MODEL, changes=(((GREAT, GREAT), 0, delay),))
        Clock(RING, changes=(((3, 0), 1, 1), ((3, 0), 0, 1), ((3, 1), 0, 1)))
        for changes in ((((3, 0), 0, 21),), (((3, 0), 0, -1),), (((3, 0), 1, 1),), (((3, 0), -1, 1),), (((3, 0), 0),),
                        (((3, 0), 0, 1, 1),), ([(3, 0), 0, 1],), [((3, 0), 0, 1)], ((3, 0), 0, 1),
                        (((3, 0), 0, 1), ((3, 0), 0, 2)), (((3, 0), 0, 1), ((3, 0), 0, 1)), (((3, 0), False, 1),)):
            self.assertRaisesWith(BadChanges, changes, Clock, MODEL, changes=changes)

    def test_wrong_stations(self):
        clock = Clock(MODEL)
        for value in any_values():
            if value != 'tap':
                self.assertRaisesWith(NoStation, value, clock.worths, value)
                self.assertRaisesWith(NoStation, value, clock.worths, station=value)
        self.assertEqual(clock.worths(station='tap'), (0,))
        self.assertEqual(clock, Clock(MODEL))


if __name__ == '__main__':
    unittest.main()

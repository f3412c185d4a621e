"""Point 10: states, ways and reactions."""

import random
import unittest

from farasnothing.errors import BadModel, BadState, NoStation
from farasnothing.machine import Machine
from farasnothing.reactions import all_states, reactions, shows_way, state_of, states_from, way_to
from tests import oracle
from tests.checks import Checks
from tests.driving import driven
from tests.samples import MODEL, Maker, any_values, paths_of, part_at, replaced

COUNTER = ('s', (('n', 0),), ('up', 'by'), ('o', 'p'), ('l', 'k'), (
    (('set', 'n', 0), ('wait', 'k', 'n')),
    (('send', 'p', 'n'), ('send', 'o', 'n')),
    (('if', ('<', 'n', 2), (('set', 'n', ('+', 'n', 1)),), ()),),
    (('if', ('<', 'n', 'it'), (('wait', 'l', ('-', 'it', 'n')),), (('drop', 'l'),)),)))
COUNTING = (4, (COUNTER,), (), ())


def right_state(value, size=5, alarms=('bell',)):
    """Whether it is a state of a station with one cell."""
    return (type(value) is tuple and len(value) == 2 and type(value[0]) is tuple and len(value[0]) == 1
            and type(value[0][0]) is int and 0 <= value[0][0] < size and value[1] in ((), alarms))


class States(Checks, unittest.TestCase):

    def test_the_example(self):
        machine = Machine(MODEL)
        told = [machine.may_take('tap'), machine.take('tap'), machine.take('tap')[0], machine.on_way(0),
                machine.promise(0)]
        self.assertEqual(told, [True, ((0, 0), 'tap', 'a', 1, (), ()), (2, 0), (('letter', (6, 0), 4),), (7, 0)])
        told = [machine.come(0), machine.may_take('sink'), machine.take('sink')[5]]
        self.assertEqual(told, [('letter', (6, 0), 4), True, (4,)])
        told = [state_of(machine, 'tap'), len(states_from(MODEL, 'tap', ((0,), ()))),
                reactions(MODEL, 'tap', (((0,), ()),))]
        self.assertEqual(told, [((0,), ('bell',)), 6, (((), ()), (('o',), (('bell', 3),)))])

    def test_state_of(self):
        machine = Machine(MODEL)
        self.assertEqual([state_of(machine, 'tap'), state_of(machine, 'sink')], [((0,), ()), ((), ())])
        machine.take('tap')
        self.assertEqual(state_of(station='tap', machine=machine), ((1,), ('bell',)))
        set_first = Machine((4, (COUNTER,), (), ((3, 's', 'k', 0), (0, 's', 'l', 0))))
        self.assertEqual(state_of(set_first, 's'), ((0,), ('l', 'k')))
        set_first.take('s')
        self.assertEqual(state_of(set_first, 's'), ((0,), ('k',)))

    def test_all_states(self):
        self.assertEqual(all_states(MODEL, 'sink'), (((), ()),))
        self.assertEqual(all_states(MODEL, 'tap')[:3], (((0,), ()), ((0,), ('bell',)), ((1,), ())))
        self.assertEqual(all_states(station='s', model=COUNTING)[:5],
                         (((0,), ()), ((0,), ('k',)), ((0,), ('l',)), ((0,), ('l', 'k')), ((1,), ())))
        self.assertEqual(len(all_states(COUNTING, 's')), 16)

    def test_made_models(self):
        dice = random.Random(8)
        for seed in range(150):
            model = Maker(seed).model()
            size = model[0]
            for station in model[1]:
                states = oracle.states_of(size, station)
                self.assertEqual(all_states(model, station[0]), tuple(states))
                state, other = dice.choice(states), dice.choice(states)
                closed = oracle.closed(size, station, state)
                self.assertEqual(states_from(model, station[0], state), tuple(closed))
                for many in (0, 1, 3, len(states)):
                    some = tuple([dice.choice(states) for _ in range(many)])
                    self.assertEqual(reactions(model, station[0], some), oracle.reacted(size, station, some))
                self.assertEqual(reactions(model, station[0], tuple(states)), oracle.reacted(size, station, states))
                told = way_to(model, station[0], state, other)
                self.assertTrue(shows_way(model, station[0], state, other, told))
                if other in closed:
                    self.assertEqual(told, ('way', self.least_way(size, station, state, other)))
                else:
                    self.assertEqual(told, ('no', tuple(closed)))

    def least_way(self, size, station, state, other):
        """The least one of all shortest ways, found by trying all tuples of steps of a length."""
        ways = {state: ()}
        while other not in ways:
            further = {}
            for one, way in ways.items():
                for name, it, behind, _ in oracle.steps(size, station, one):
                    told = (*way, (name, it))
                    further[behind] = min(further.get(behind, told), told)
            # All ways of a length are kept by their ends: the least one of an end goes on to the least ones.
            ways = further
        return ways[other]

    def test_ways(self):
        def way(state, other):
            return way_to(COUNTING, 's', state, other)
        start = ((0,), ())
        self.assertEqual(way(start, start), ('way', ()))
        self.assertEqual(way(start, ((1,), ())), ('way', (('up', 0),)))
        self.assertEqual(way(start, ((2,), ())), ('way', (('up', 0), ('up', 0))))
        self.assertEqual(way(start, ((0,), ('l',))), ('way', (('by', 1),)))
        self.assertEqual(way(start, ((1,), ('l',))), ('way', (('by', 1), ('up', 0))))
        self.assertEqual(way(((2,), ()), ((0,), ())), ('way', (('by', 3), ('l', 0), ('k', 0))))
        self.assertEqual(way(start, ((3,), ())), ('no', states_from(COUNTING, 's', start)))
        self.assertEqual(way(((3,), ()), ((3,), ('l',)))[0], 'no')

    def test_shows_longer_ways(self):
        def shows(*steps, other=((2,), ())):
            return shows_way(COUNTING, 's', ((0,), ()), other, ('way', steps))
        self.assertIs(shows(('up', 0), ('up', 0)), True)
        self.assertIs(shows(('up', 3), ('up', 1)), True)
        self.assertIs(shows(('up', 0), ('up', 0), ('up', 2)), True)
        self.assertIs(shows(('by', 1), ('l', 0), ('k', 0), ('up', 0), ('up', 0)), True)
        self.assertIs(shows(('up', 0)), False)
        self.assertIs(shows(), False)
        self.assertIs(shows(other=((0,), ())), True)
        self.assertIs(shows(('by', 0), other=((0,), ())), True)
        for step in (('up', 4), ('up', -1), ('up', True), ('up', None), ['up', 0], ('up',), ('up', 0, 0), ('no', 0),
                     ('l', 0), ('k', 0), ('o', 0), ('n', 0), None, ([], 0), ('by', True)):
            self.assertIs(shows(('up', 0), step, ('up', 0)), False, step)
        self.assertIs(shows(('by', 1), ('l', 1), ('k', 0), ('up', 0), ('up', 0)), False)
        self.assertIs(shows(('by', 1), ('l', False), ('k', 0), ('up', 0), ('up', 0)), False)
        steps = [('up', 0), ('up', 0)]
        self.assertIs(shows_way(COUNTING, 's', ((0,), ()), ((2,), ()), ('way', steps)), False)
        self.assertIs(shows_way(COUNTING, 's', ((0,), ()), ((2,), ()), ['way', tuple(steps)]), False)
        self.assertIs(shows_way(COUNTING, 's', ((0,), ()), ((2,), ()), ('no', tuple(steps))), False)
        self.assertIs(shows_way(COUNTING, 's', ((0,), ()), ((2,), ()), ('way', tuple(steps), 1)), False)

    def test_shows_closed_sets(self):
        start, other = ((0,), ()), ((3,), ())
        closed = states_from(COUNTING, 's', start)

        def shows(states, state=start):
            return shows_way(COUNTING, 's', state, other, ('no', states))
        self.assertIs(shows(closed), True)
        self.assertIs(shows(closed, ((1,), ())), True)
        for at, state in enumerate(closed):
            self.assertIs(shows(closed[:at] + closed[at + 1:]), False)
            self.assertIs(shows(closed[:at] + (state,) + closed[at:]), False)
            self.assertIs(shows(closed[:at] + (list(state),) + closed[at + 1:]), False)
            self.assertIs(shows(closed[:at] + ((state[0], list(state[1])),) + closed[at + 1:]), False)
            if state[0] == (1,):
                self.assertIs(shows(closed[:at] + (((True,), state[1]),) + closed[at + 1:]), False)
        self.assertIs(shows(closed + (other,)), False)
        self.assertIs(shows(closed[::-1]), False)
        self.assertIs(shows(list(closed)), False)
        self.assertIs(shows(()), False)
        self.assertIs(shows(all_states(COUNTING, 's')), False)
        self.assertIs(shows_way(COUNTING, 's', start, ((1,), ()), ('no', closed)), False)

    def test_shows_greater_closed_sets(self):
        station = ('s', (('n', 0),), ('i',), (), (), ((('set', 'n', ('*', 'n', 'n')),),))
        model = (6, (station,), (), ())

        def shows(*worths):
            return shows_way(model, 's', ((5,), ()), ((2,), ()), ('no', tuple([((worth,), ()) for worth in worths])))
        self.assertEqual(way_to(model, 's', ((5,), ()), ((2,), ())), ('no', (((1,), ()), ((5,), ()))))
        self.assertIs(shows(1, 5), True)
        self.assertIs(shows(0, 1, 5), True)
        self.assertIs(shows(0, 1, 3, 4, 5), True)
        self.assertIs(shows(1, 4, 5), True)
        self.assertIs(shows(5), False)
        self.assertIs(shows(0, 1), False)
        self.assertIs(shows(1, 2, 4, 5), False)

    def test_shows_way_with_one_thing_otherwise(self):
        dice = random.Random(3)
        ways = [(((0,), ()), ((2,), ('l', 'k'))), (((0,), ()), ((3,), ()))]
        for state, other in ways:
            told = way_to(COUNTING, 's', state, other)
            self.assertTrue(shows_way(COUNTING, 's', state, other, told))
            for path in paths_of(told):
                for value in dice.sample(any_values(), 12):
                    changed = replaced(told, path, value)
                    answer = shows_way(COUNTING, 's', state, other, changed)
                    self.assertIs(type(answer), bool)
                    if value is None or value is True or isinstance(value, (list, dict)):
                        self.assertFalse(answer, changed)
                if isinstance(part_at(told, path), tuple):
                    self.assertFalse(shows_way(COUNTING, 's', state, other,
                                               replaced(told, path, list(part_at(told, path)))))

    def test_reactions(self):
        def told(*states):
            return reactions(COUNTING, 's', states)
        nothing = ((), ())
        self.assertEqual(told(), (nothing, nothing, nothing, nothing))
        self.assertEqual(told(((0,), ())), (nothing, nothing, nothing, ((), (('l', 1),))))
        self.assertEqual(told(((2,), ())), (nothing, nothing, nothing, ((), (('l', 1),))))
        self.assertEqual(told(((3,), ())), (nothing, nothing, nothing, nothing))
        self.assertEqual(told(((1,), ('l',))), (((), (('k', 0),)), nothing, nothing, ((), (('l', 1),))))
        self.assertEqual(told(((3,), ('k',))), (nothing, (('o', 'p'), ()), nothing, nothing))
        both = (((), (('k', 0),)), (('o', 'p'), ()), nothing, ((), (('l', 1),)))
        self.assertEqual(told(((1,), ('l',)), ((3,), ('k',)), ((1,), ('l',))), both)
        self.assertEqual(told(((3,), ('k',)), ((1,), ('l',))), both)
        self.assertEqual(told(*all_states(COUNTING, 's')), both)

    def test_the_least_worths(self):
        station = ('s', (('n', 0),), ('i',), ('o',), ('k',), (
            (), (('wait', 'k', ('+', 'n', 'it')), ('if', ('=', 'it', 3), (('drop', 'k'),), ()))))
        model = (6, (station,), (), ())
        self.assertEqual(reactions(model, 's', (((2,), ()),))[1], ((), (('k', 0),)))
        self.assertEqual(reactions(model, 's', (((3,), ()),))[1], ((), (('k', 1),)))
        self.assertEqual(reactions(model, 's', (((3,), ()), ((4,), ())))[1], ((), (('k', 0),)))

    def test_driven_machines(self):
        for seed in range(60):
            machine = driven(seed, 40)
            for station in machine.model[1]:
                worths, alarms = state_of(machine, station[0])
                self.assertEqual(worths, machine.worths(station[0]))
                names = [item[1] for item in machine.waiting(station[0])]
                self.assertEqual(alarms, tuple([alarm for alarm in station[4] if alarm in names]))

    def test_named_arguments(self):
        start = ((0,), ())
        self.assertEqual(len(states_from(state=start, station='tap', model=MODEL)), 6)
        told = way_to(other=((1,), ('bell',)), state=start, station='tap', model=MODEL)
        self.assertEqual(told, ('way', (('a', 1),)))
        self.assertTrue(shows_way(value=told, other=((1,), ('bell',)), state=start, station='tap', model=MODEL))
        self.assertEqual(reactions(states=(), station='sink', model=MODEL), (((), ()),))

    def test_wrong_arguments(self):
        state = ((0,), ())
        for value in any_values():
            for act, more in ((all_states, 0), (states_from, 1), (reactions, 1), (way_to, 2), (shows_way, 3)):
                self.assertRaisesWith(BadModel, value, act, value, value, *[value] * more)
                if value != 'tap':
                    self.assertRaisesWith(NoStation, value, act, MODEL, value, *[value] * more)
            if value != 'tap':
                self.assertRaisesWith(NoStation, value, state_of, Machine(MODEL), value)
            self.assertFalse(shows_way(MODEL, 'tap', state, ((1,), ()), value))

    def test_what_is_no_state(self):
        start = ((0,), ())
        wrong = [((0,), ['bell']), ([0], ()), ((5,), ()), ((-1,), ()), ((True,), ()), ((), ()), ((0, 0), ()), ((0,),),
                 ((0,), ('bell', 'bell')), ((0,), ('a',)), ((0,), 'bell'), ((0,), (), ()), [(0,), ()], ((0,), None),
                 ((0,), ({},)), ((0,), (True,))]
        for value in any_values() + wrong:
            self.assertFalse(right_state(value))
            self.assertRaisesWith(BadState, value, states_from, MODEL, 'tap', value)
            self.assertRaisesWith(BadState, value, way_to, MODEL, 'tap', value, value)
            self.assertRaisesWith(BadState, value, way_to, MODEL, 'tap', value, start)
            self.assertRaisesWith(BadState, value, way_to, MODEL, 'tap', start, value)
            self.assertRaisesWith(BadState, value, shows_way, MODEL, 'tap', value, start, value)
            self.assertRaisesWith(BadState, value, shows_way, MODEL, 'tap', value, None, value)
            self.assertRaisesWith(BadState, value, shows_way, MODEL, 'tap', start, value, value)
            self.assertRaisesWith(BadState, value, reactions, MODEL, 'tap', (start, value, None))
            if not isinstance(value, tuple):
                self.assertRaisesWith(BadState, value, reactions, MODEL, 'tap', value)
            elif value:
                self.assertRaisesWith(BadState, value[0], reactions, MODEL, 'tap', value)
        self.assertRaisesWith(BadState, ((0,), ('k', 'l')), states_from, COUNTING, 's', ((0,), ('k', 'l')))


if __name__ == '__main__':
    unittest.main()

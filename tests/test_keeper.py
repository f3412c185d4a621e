"""Point 20: a keeper, beside a row of machines that are given the same orders."""

import random
import unittest

from farasnothing.errors import (BadCount, BadKnows, BadModel, BadOrder, BadRoofs, NoLine, NothingOnWay,
                                 NothingToRedo, NothingToUndo, Waits)
from farasnothing.keeper import Keeper
from farasnothing.machine import Machine
from farasnothing.oneclock import Clock
from tests.checks import Checks
from tests.keeping import Row, any_order, led_keeper, line_of, made_keeper, told_by, went_on
from tests.samples import MODEL, RING, any_values, replaced

ORDERS = (('come', 0), ('take', 'tap'), ('note', 0), ('learn', 'tap', 'states'), ('unite', 'tap', 'sink'), ('survey',),
          ('picture', ('tap',)), ('mark', 'tap'), ('fall', ('tap',)), ('forget',), ('back', (0, 0)),
          ('change', (9, 0), 0, 5))


def shown(keeper):
    """All that a keeper tells."""
    machine = keeper.machine_now()
    return (machine.content(), machine.log, keeper.orders, keeper.journal)


def steps_of(keeper):
    """All that a keeper tells, also behind undoing everything and doing it again, as far as it can."""
    other = keeper.copy()
    told = [shown(other)]
    for order in (('undo',), ('redo',)):
        while told_by(other, order)[0] == 'done':
            told.append(shown(other))
    return told


class Orders(Checks, unittest.TestCase):

    def test_a_new_keeper(self):
        keeper = Keeper(MODEL)
        self.assertTrue(keeper.machine_now() == Machine(MODEL))
        self.assertEqual([keeper.orders, keeper.journal.split('\n')[-1]], [(), 'knows delays delays'])
        for name in ('orders', 'journal'):
            self.assertIn(name, vars(keeper))
        keeper = Keeper(model=MODEL, unwritten=(0,), roofs=(('sink', 'tap'),), knows='states')
        self.assertTrue(keeper.machine_now() == Machine(MODEL, knows='states', roofs=(('tap', 'sink'),), unwritten=(0,)))

    def test_what_do_returns_and_raises(self):
        keeper = Keeper(MODEL)
        self.assertEqual(keeper.do(('take', 'tap')), ((0, 0), 'tap', 'a', 1, (), ()))
        self.assertEqual(keeper.do(order=('note', 0)), (6, 0))
        self.assertIsNone(keeper.do(('mark', 'tap')))
        self.assertEqual(keeper.do(('come', 0)), ('notice', (6, 0)))
        before = shown(keeper)
        self.assertRaisesNaming(NothingOnWay, 0, keeper.do, ('come', 0))
        self.assertRaisesNaming(NoLine, 7, keeper.do, ('come', 7))
        self.assertEqual(shown(keeper), before)
        self.assertEqual(keeper.orders, (('take', 'tap'), ('note', 0), ('mark', 'tap'), ('come', 0)))
        self.assertEqual(keeper.do(('fall', ('tap',))), (1, None))
        self.assertEqual(keeper.do(('forget',)), (1, 0))

    def test_machine_now_is_a_copy(self):
        keeper = Keeper(MODEL)
        machine = keeper.machine_now()
        machine.take('tap')
        self.assertEqual([keeper.machine_now().log, keeper.orders], [(), ()])
        keeper.do(('mark', 'tap'))
        self.assertEqual(machine.log, (('take', 'tap'),))

    def test_beside_a_row_of_machines(self):
        kinds = {}
        for seed in range(130):
            keeper = made_keeper(seed, busy=seed % 2 == 0)
            row, dice = Row(keeper), random.Random(seed)
            head = keeper.journal
            for _ in range(45):
                order = any_order(row.now(), dice)
                told = getattr(row, order[0])() if order[0] in ('undo', 'redo') else row.do(order)
                before = shown(keeper)
                self.assertEqual(told_by(keeper, order), told, order)
                machine = keeper.machine_now()
                self.assertTrue(machine == row.now())
                self.assertEqual([machine.log, keeper.orders], [row.now().log, row.now().log])
                self.assertEqual(keeper.journal, '\n'.join([head, *[line_of(one) for one in keeper.orders]]))
                if told[0] == 'refused':
                    self.assertEqual(shown(keeper), before)
                kinds[told[0], order[0]] = kinds.get((told[0], order[0]), 0) + 1
            self.assertTrue(keeper == keeper.copy())
        for kind in ('go', 'undo', 'redo', *[order[0] for order in ORDERS]):
            self.assertGreater(kinds['done', kind], 15, kind)
        for kind in ('undo', 'redo', 'come', 'take', 'fall', 'picture', 'back', 'change'):
            self.assertGreater(kinds['refused', kind], 15, kind)

    def test_all_undone_and_all_redone(self):
        for seed in range(60):
            keeper = led_keeper(seed, 50, busy=True)
            while told_by(keeper, ('redo',))[0] == 'done':
                pass
            last, first = shown(keeper), made_keeper(seed, busy=True)
            told = [shown(keeper)]
            while told_by(keeper, ('undo',))[0] == 'done':
                told.append(shown(keeper))
            self.assertEqual(shown(keeper), shown(first))
            for one in told[::-1][1:]:
                self.assertIsNone(keeper.redo())
                self.assertEqual(shown(keeper), one)
            self.assertEqual(shown(keeper), last)
            with self.assertRaises(NothingToRedo):
                keeper.redo()

    def test_nothing_is_redone_behind_a_further_step(self):
        keeper = Keeper(MODEL)
        keeper.do(('take', 'tap'))
        keeper.undo()
        self.assertRaisesNaming(Waits, 0, Keeper(RING).do, ('take', 'b'))
        for refused in (('come', 0), ('come', 9), ('go',), None):
            self.assertEqual(told_by(keeper, refused)[0] if refused and refused[0] == 'come' else 'refused', 'refused')
        self.assertEqual(keeper.go(0), ())
        keeper.redo()
        keeper.undo()
        keeper.do(('survey',))
        with self.assertRaises(NothingToRedo) as caught:
            keeper.redo()
        self.assertEqual(vars(caught.exception), {})
        keeper.undo()
        with self.assertRaises(NothingToUndo) as caught:
            keeper.undo()
        self.assertEqual(vars(caught.exception), {})

    def test_what_is_no_order(self):
        keeper = Keeper(MODEL)
        before = shown(keeper)
        wrong = [('come',), ('come', 0, 0), ('survey', ()), ('learn', 'tap'), ('unite', 'tap'), ('change', (0, 0), 0), (),
                 ('go', 1), ('undo',), ('copy',), ('Take', 'tap'), (('take', 'tap'),), ('take tap',), (['take'], 'tap'),
                 ({}, 'tap'), (None,), (True, 1), ['take', 'tap'], 'take', ('',), ('log',), ('__init__', MODEL)]
        for value in [*any_values(), *wrong]:
            self.assertRaisesWith(BadOrder, value, keeper.do, value)
        for order in ORDERS:
            for value in (order[:-1], (*order, 0), list(order)):
                if value != ('survey',) and value != ('forget',):
                    self.assertRaisesWith(BadOrder, value, keeper.do, value)
        self.assertEqual(shown(keeper), before)

    def test_each_part_of_an_order_otherwise(self):
        """Orders of form raise just what the machine raises."""
        keeper, refused = Keeper(MODEL), 0
        for order in ORDERS:
            for at in range(1, len(order)):
                for value in [*any_values(), 'nobody', ('nobody',), ((0, 0), (1, 1))]:
                    one = replaced(order, (at,), value)
                    before, row = shown(keeper), Row(keeper)
                    told = row.do(one)
                    self.assertEqual(told_by(keeper, one), told)
                    if told[0] == 'done':
                        keeper.undo()
                    else:
                        refused += 1
                    self.assertEqual(shown(keeper), before)
        self.assertGreater(refused, 500)

    def test_wrong_arguments_of_a_keeper(self):
        for value in any_values():
            self.assertRaisesWith(BadModel, value, Keeper, value, knows=value, roofs=value, unwritten=value)
            if value != 'delays':
                self.assertRaisesWith(BadKnows, value, Keeper, MODEL, knows=value, roofs=value, unwritten=value)
            if value not in ((), ('tap',)) and value != (('tap',),):
                self.assertRaisesWith(BadRoofs, value, Keeper, MODEL, roofs=value, unwritten=value)
            if not isinstance(value, tuple):
                self.assertRaisesWith(NoLine, value, Keeper, MODEL, unwritten=value)
        with self.assertRaises(TypeError):
            Keeper(MODEL, 'states')
        with self.assertRaises(TypeError):
            Keeper(MODEL, changes=())


class Going(Checks, unittest.TestCase):

    def test_a_go_is_one_step(self):
        keeper = Keeper(MODEL)
        deeds = keeper.go(many=20)
        self.assertEqual(deeds, tuple(Clock(MODEL).run(20)))
        # Only the letter that comes lets the sink take; what the tap still may do it does first.
        self.assertEqual(keeper.orders, (('take', 'tap'), ('take', 'tap'), ('come', 0), ('take', 'tap'), ('come', 0),
                                         ('take', 'sink'), ('take', 'sink')))
        keeper.undo()
        self.assertEqual(shown(keeper), shown(Keeper(MODEL)))
        with self.assertRaises(NothingToUndo):
            keeper.undo()
        keeper.redo()
        self.assertEqual(len(keeper.orders), 7)

    def test_so_many_items(self):
        for many in range(8):
            keeper = Keeper(MODEL)
            deeds = keeper.go(many)
            self.assertEqual(deeds, tuple(Clock(MODEL).run(many)))
            self.assertEqual(len([order for order in keeper.orders if order[0] == 'take']), min(many, 5))
            if many < 6:
                self.assertEqual(keeper.orders[-1:], (('take', 'tap' if many < 4 else 'sink'),) if many else ())

    def test_for_0_nothing_is_done(self):
        keeper = Keeper(MODEL)
        keeper.do(('note', 0))
        before = steps_of(keeper)
        self.assertEqual(keeper.go(0), ())
        self.assertEqual(steps_of(keeper), before)

    def test_a_go_that_did_nothing_is_no_step(self):
        keeper = Keeper(MODEL)
        keeper.go(9)
        keeper.do(('mark', 'tap'))
        keeper.undo()
        before = steps_of(keeper)
        self.assertEqual(keeper.go(5), ())
        self.assertEqual(steps_of(keeper), before)
        keeper.redo()

    def test_a_go_in_which_things_come_alone(self):
        keeper = Keeper((RING[0], RING[1], RING[2], ()))
        keeper.do(('note', 1))
        keeper.do(('note', 0))
        self.assertEqual(keeper.go(3), ())
        self.assertEqual(keeper.orders[2:], (('come', 0), ('come', 1)))
        keeper.undo()
        self.assertEqual(len(keeper.orders), 2)

    def test_surveys(self):
        keeper = Keeper(RING)
        self.assertEqual(len(keeper.go(4)), 1)
        self.assertEqual(keeper.orders, (('survey',), ('take', 'b')))

    def test_flags_come_again_from_the_first_line(self):
        keeper = Keeper(RING)
        keeper.do(('picture', ('b',)))
        self.assertEqual(keeper.machine_now().on_way(1), (('flag',),))
        keeper.go(1)
        self.assertEqual(keeper.orders[1:], (('come', 1), ('come', 0), ('survey',), ('take', 'b')))

    def test_the_first_station_of_the_model_that_may_takes(self):
        stations = tuple([(name, (), ('i',), (), (), ((('say', 'it'),),)) for name in 'ba'])
        keeper = Keeper((2, stations, (), ((1, 'a', 'i', 0), (5, 'b', 'i', 1), (3, 'b', 'i', 0))))
        keeper.go(9)
        self.assertEqual(keeper.orders, (('take', 'b'), ('take', 'b'), ('take', 'a')))

    def test_machines_by_its_words(self):
        taken = 0
        for seed in range(200, 280):
            keeper = led_keeper(seed, 12, busy=True)
            for many in (1, 3, 30):
                machine = keeper.machine_now()
                deeds = keeper.go(many)
                self.assertEqual(deeds, went_on(machine, many))
                self.assertEqual(keeper.orders, machine.log)
                taken += len(deeds)
        self.assertGreater(taken, 500)

    def test_what_is_no_count(self):
        keeper = Keeper(MODEL)
        for value in any_values():
            if type(value) is not int or value < 0:
                self.assertRaisesWith(BadCount, value, keeper.go, value)
        self.assertEqual(keeper.orders, ())


class Trials(unittest.TestCase):

    def test_not_kept(self):
        keeper = Keeper(MODEL)
        keeper.do(('take', 'tap'))
        keeper.do(('take', 'tap'))
        keeper.undo()
        before = steps_of(keeper)
        with keeper.trial() as trial:
            self.assertIsNotNone(trial)
            keeper.do(('survey',))
            keeper.undo()
            keeper.undo()
            keeper.go(4)
            self.assertEqual(len(keeper.orders), 6)
        self.assertEqual(steps_of(keeper), before)
        keeper.redo()
        self.assertEqual(keeper.orders, (('take', 'tap'),) * 2)

    def test_kept(self):
        keeper = Keeper(MODEL)
        keeper.do(('take', 'tap'))
        with keeper.trial() as trial:
            keeper.do(('take', 'tap'))
            self.assertIsNone(trial.keep())
            keeper.do(('come', 0))
        self.assertEqual(keeper.orders, (('take', 'tap'), ('take', 'tap'), ('come', 0)))
        for many in (2, 1, 0):
            keeper.undo()
            self.assertEqual(len(keeper.orders), many)

    def test_an_error_that_leaves(self):
        keeper = Keeper(MODEL)
        keeper.do(('take', 'tap'))
        before = steps_of(keeper)
        for keeps in (False, True):
            for error in (ValueError, KeyboardInterrupt, NothingOnWay):
                with self.assertRaises(error):
                    with keeper.trial() as trial:
                        keeper.go(2)
                        if keeps:
                            trial.keep()
                        if error is NothingOnWay:
                            keeper.do(('come', 0))
                            keeper.do(('come', 0))
                        raise error()
                self.assertEqual(steps_of(keeper), before)

    def test_an_error_that_does_not_leave(self):
        keeper = Keeper(MODEL)
        with keeper.trial() as trial:
            trial.keep()
            keeper.do(('take', 'tap'))
            with self.assertRaises(NothingOnWay):
                keeper.do(('come', 0))
        self.assertEqual(len(keeper.orders), 1)

    def test_undo_goes_on_to_what_was_done_ahead(self):
        for keeps in (False, True):
            keeper = Keeper(MODEL)
            for _ in range(2):
                keeper.do(('take', 'tap'))
            with keeper.trial() as trial:
                keeper.do(('come', 0))
                for _ in range(2):
                    keeper.undo()
                self.assertEqual(keeper.orders, (('take', 'tap'),))
                if keeps:
                    trial.keep()
            self.assertEqual(len(keeper.orders), 1 if keeps else 2)
            if keeps:
                keeper.redo()
                keeper.redo()
                self.assertEqual(len(keeper.orders), 3)
            else:
                with self.assertRaises(NothingToRedo):
                    keeper.redo()

    def test_within_one_another(self):
        for outer in (False, True):
            for inner in (False, True):
                keeper = Keeper(MODEL)
                keeper.do(('take', 'tap'))
                with keeper.trial() as trial:
                    keeper.do(('take', 'tap'))
                    with keeper.trial() as other:
                        keeper.do(('come', 0))
                        keeper.do(('mark', 'tap'))
                        if inner:
                            other.keep()
                    self.assertEqual(len(keeper.orders), 4 if inner else 2)
                    keeper.do(('survey',))
                    if outer:
                        trial.keep()
                many = (5 if inner else 3) if outer else 1
                self.assertEqual(len(keeper.orders), many)
                for left in range(many - 1, -1, -1):
                    keeper.undo()
                    self.assertEqual(len(keeper.orders), left)

    def test_the_outer_one_is_kept_from_within_the_inner_one(self):
        keeper = Keeper(MODEL)
        with keeper.trial() as trial:
            keeper.do(('take', 'tap'))
            with keeper.trial():
                keeper.do(('take', 'tap'))
                trial.keep()
            self.assertEqual(len(keeper.orders), 1)
        self.assertEqual(len(keeper.orders), 1)

    def test_a_block_begins_when_it_is_entered(self):
        keeper = Keeper(MODEL)
        trial = keeper.trial()
        trial.keep()
        keeper.do(('take', 'tap'))
        with trial:
            keeper.do(('take', 'tap'))
        self.assertEqual(len(keeper.orders), 1)
        with trial as same:
            same.keep()
            keeper.do(('take', 'tap'))
        self.assertEqual(len(keeper.orders), 2)
        with trial:
            keeper.do(('survey',))
            with trial as again:
                again.keep()
                keeper.do(('survey',))
            self.assertEqual(len(keeper.orders), 4)
        self.assertEqual(len(keeper.orders), 2)
        trial.keep()
        with trial:
            keeper.do(('survey',))
        self.assertEqual(len(keeper.orders), 2)

    def test_tried(self):
        for keep, kept in ((False, False), (True, True), (1, False), (0, False), (None, False), ('yes', False),
                           ([True], False), ((), False), ({}, False)):
            keeper = Keeper(MODEL)
            self.assertEqual(keeper.tried(lambda one: one.go(2), keep=keep), tuple(Clock(MODEL).run(2)))
            self.assertEqual(len(keeper.orders), 2 if kept else 0)
        keeper = Keeper(MODEL)
        seen = []
        self.assertIsNone(keeper.tried(look=seen.append))
        self.assertIs(seen[0], keeper)
        self.assertEqual(len(keeper.tried(lambda one: one.go(2))), 2)
        self.assertEqual(keeper.orders, ())
        self.assertEqual(keeper.tried(lambda one: one.tried(lambda two: two.go(1), keep=True), keep=False)[0][1], 'tap')
        self.assertEqual(keeper.orders, ())
        with self.assertRaises(TypeError):
            keeper.tried(seen.append, True)

    def test_an_error_of_look_goes_on(self):
        keeper = Keeper(MODEL)
        keeper.do(('take', 'tap'))
        before = steps_of(keeper)

        def look(one):
            one.go(3)
            raise KeyError('why')

        for keep in (False, True):
            with self.assertRaises(KeyError) as caught:
                keeper.tried(look, keep=keep)
            self.assertEqual(caught.exception.args, ('why',))
            self.assertEqual(steps_of(keeper), before)

    def test_beside_a_row_of_machines(self):
        """Trials within one another at random; behind each the row is as it was, unless it is kept."""
        seen = {'kept': 0, 'not': 0, 'error': 0}
        for seed in range(60):
            keeper = led_keeper(seed, 10, busy=True)
            row = Row(keeper)
            row.machines = [keeper.machine_now()]
            keeper = self.without_steps(keeper)
            self.try_any(keeper, row, random.Random(seed), 0, seen)
            self.assertTrue(keeper.machine_now() == row.now())
        self.assertGreater(min(seen.values()), 30)

    def without_steps(self, keeper):
        """The keeper with its steps behind it: what was undone is done again or no more."""
        other = keeper.copy()
        other.steps, other.undone = (), ()
        return other

    def try_any(self, keeper, row, dice, depth, seen):
        for _ in range(dice.randint(3, 9)):
            order = any_order(row.now(), dice)
            if depth < 3 and dice.random() < 0.3:
                held, end = row.copy(), dice.choice(('kept', 'not', 'error'))
                seen[end] += 1
                try:
                    with keeper.trial() as trial:
                        self.try_any(keeper, row, dice, depth + 1, seen)
                        if end != 'not':
                            trial.keep()
                        if end == 'error':
                            raise ZeroDivisionError
                except ZeroDivisionError:
                    pass
                if end != 'kept':
                    row.machines, row.at = held.machines, held.at
                self.assertEqual(keeper.orders, row.now().log)
            else:
                told = getattr(row, order[0])() if order[0] in ('undo', 'redo') else row.do(order)
                self.assertEqual(told_by(keeper, order), told)
            self.assertTrue(keeper.machine_now() == row.now())


class Alike(Checks, unittest.TestCase):

    def test_copies_are_equal_and_independent(self):
        for seed in range(60):
            keeper = led_keeper(seed, 40, busy=True)
            other = keeper.copy()
            self.assertTrue(keeper == other)
            self.assertEqual(steps_of(keeper), steps_of(other))
            before = steps_of(keeper)
            dice = random.Random(seed)
            for _ in range(20):
                told_by(other, any_order(other.machine_now(), dice))
            self.assertEqual(steps_of(keeper), before)
            again, dice = keeper.copy(), random.Random(seed)
            for _ in range(20):
                told_by(again, any_order(again.machine_now(), dice))
            self.assertEqual(steps_of(again), steps_of(other))

    def test_a_copy_can_undo_and_redo_the_same(self):
        keeper = Keeper(MODEL)
        for order in (('take', 'tap'), ('mark', 'tap'), ('survey',)):
            keeper.do(order)
        keeper.undo()
        keeper.undo()
        other = keeper.copy()
        self.assertEqual([other.orders, other.journal], [keeper.orders, keeper.journal])
        for many in (2, 3):
            other.redo()
            self.assertEqual([len(other.orders), len(keeper.orders)], [many, 1])
        for many in (2, 1, 0):
            other.undo()
            self.assertEqual([len(other.orders), len(keeper.orders)], [many, 1])
        keeper.undo()
        for many in (1, 2, 3):
            keeper.redo()
            self.assertEqual([len(other.orders), len(keeper.orders)], [0, many])

    def test_a_copy_within_a_trial_stays(self):
        keeper = Keeper(MODEL)
        with keeper.trial():
            keeper.do(('take', 'tap'))
            other = keeper.copy()
        self.assertEqual([len(keeper.orders), len(other.orders)], [0, 1])
        other.undo()
        self.assertEqual(other.orders, ())

    def test_equal_if_their_machines_are(self):
        keeper, other = Keeper(MODEL), Keeper(MODEL)
        keeper.do(('mark', 'tap'))
        keeper.do(('unite', 'sink', 'sink'))
        self.assertTrue(keeper == other)
        self.assertFalse(keeper != other)
        self.assertNotEqual(keeper.orders, other.orders)
        other.do(('take', 'tap'))
        self.assertFalse(keeper == other)
        other.undo()
        self.assertTrue(keeper == other)
        for value in [*any_values(), keeper.machine_now(), keeper.journal, Clock(MODEL)]:
            self.assertIs(keeper == value, False)
            self.assertIs(keeper != value, True)

    def test_one_thing_otherwise(self):
        made = [Keeper(MODEL), Keeper(MODEL, knows=('delays', 'states')), Keeper(MODEL, roofs=(('tap', 'sink'),)),
                Keeper(MODEL, unwritten=(0,)), Keeper(replaced(MODEL, (2, 0, 4), 5)), Keeper(replaced(MODEL, (3, 0, 3), 2))]
        for order in ORDERS:
            keeper = Keeper(MODEL)
            keeper.go(2)
            if order[0] not in ('forget', 'survey'):
                keeper.do(order)
            made.append(keeper)
        for order in (('forget',), ('survey',)):
            keeper = Keeper(MODEL)
            for one in (('take', 'tap'), ('mark', 'tap'), order):
                keeper.do(one)
            made.append(keeper)
        told = [keeper.machine_now().content() for keeper in made]
        for at, keeper in enumerate(made):
            for place, other in enumerate(made):
                self.assertIs(keeper == other, told[at] == told[place])
        self.assertGreater(len([one for one in told if told.count(one) == 1]), 14)


if __name__ == '__main__':
    unittest.main()

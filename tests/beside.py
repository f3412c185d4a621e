"""A machine and a plain one beside it, led by the same orders."""

import random

from farasnothing.errors import FarError
from tests.driving import ALL, made_machine, order_for
from tests.plain import PlainMachine, Refused, told


class Beside:
    """Beside unittest.TestCase: all that both tell is the same."""

    def both(self, seed, **named):
        machine = made_machine(seed, **named)
        return machine, PlainMachine(machine.model, machine.knows, machine.roofs, machine.unwritten, machine.changes)

    def order_both(self, machine, plain, order):
        """Gives an order to both: they return the same, or raise the same. Returns whether it was done."""
        log = machine.log
        try:
            answer = getattr(machine, order[0])(*order[1:])
        except FarError as error:
            name, value = type(error).__name__, [*vars(error).values(), None][0]
            with self.assertRaises(Refused) as caught:
                plain.do(order)
            self.assertEqual(caught.exception.args[0], name)
            if name != 'TooEarly':
                self.assertEqual(caught.exception.args[1], value)
            self.assertIs(machine.log, log)
            return False
        self.assertEqual(answer, plain.do(order))
        self.assertEqual(machine.log, (*log, order))
        return True

    def assertSame(self, machine, plain):
        self.assertEqual(machine.knows, tuple(plain.knows))
        self.assertEqual(machine.roofs, tuple([tuple(roof) for roof in plain.roofs]))
        self.assertEqual(machine.changes, tuple(plain.changes))
        self.assertEqual(machine.drawn, plain.drawn)
        for line, carries in enumerate(plain.lines):
            self.assertEqual(machine.on_way(line), tuple([plain.shown(line, one) for one in carries.way]))
            self.assertEqual(machine.told(line), told(carries.told))
            self.assertEqual(machine.heard(line), told(plain.heard(line)))
            if not plain.inner(line):
                self.assertEqual(machine.promise(line), plain.promise(line))
        for name in plain.names:
            now = plain.now[name]
            waiting = tuple([(item[0], item[3], item[4]) for item in plain.items(name)])
            self.assertEqual(machine.deeds_of(name), now.deeds)
            self.assertEqual(machine.worths(name), now.cells)
            self.assertEqual(machine.waiting(name), waiting)
            self.assertEqual(machine.next_item(name), waiting[0] if waiting else None)
            self.assertEqual(machine.may_take(name), plain.may_take(name))
            self.assertEqual(machine.marks(name), tuple(sorted([len(mark.deeds) for mark in plain.marks[name]])))
            self.assertEqual(machine.behind(name), plain.behind(name))

    def lead(self, seed, many, kinds=ALL, **named):
        """Leads both by so many orders; what they tell is compared all along. Returns them and what was done."""
        machine, plain = self.both(seed, **named)
        dice = random.Random(seed + 500)
        done = []
        for _ in range(many):
            order = order_for(machine, dice, kinds)
            if order is not None and self.order_both(machine, plain, order):
                done.append(order[0])
                self.assertSame(machine, plain)
        return machine, plain, done

"""A keeper of a machine: with a journal, undo and trials."""

from farasnothing.boards import first_item_at
from farasnothing.errors import BadCount, BadOrder, NothingToRedo, NothingToUndo
from farasnothing.forms import shown_words
from farasnothing.machine import Machine
from farasnothing.orders import give, is_order, order_row
from farasnothing.texts import model_rows
from farasnothing.values import is_count


class Keeper:
    """Keeps a machine. Each machine that it had is kept as it was: orders are given to copies."""

    def __init__(self, model, *, knows="delays", roofs=(), unwritten=()):
        self.machine = Machine(model, knows=knows, roofs=roofs, unwritten=unwritten)
        self.orders = ()
        self.journal = "\n".join(first_rows(self.machine))
        self.steps = ()  # (machine, journal) ahead of each step that can be undone
        self.undone = ()  # (machine, journal) behind each step that can be done again, the next one last

    def __eq__(self, other):
        if not isinstance(other, Keeper):
            return False
        return self.machine == other.machine

    def machine_now(self):
        """A copy of the machine."""
        return self.machine.copy()

    def do(self, order):
        """Gives an order to the machine; returns what the machine's method returns."""
        if not is_order(order):
            raise BadOrder(order)
        machine = self.machine.copy()
        answer = give(machine, order)
        self.step_to(machine)
        return answer

    def go(self, many):
        """Goes on until so many items were taken or there is nothing more to do; returns the deeds."""
        if not is_count(many):
            raise BadCount(many)
        machine = self.machine.copy()
        deeds = go_on(machine, many)
        if machine.log != self.orders:
            self.step_to(machine)
        return deeds

    def undo(self):
        """The last order, or go as a whole, is undone."""
        if not self.steps:
            raise NothingToUndo()
        self.undone = (*self.undone, (self.machine, self.journal))
        machine, journal = self.steps[-1]
        self.steps = self.steps[:-1]
        self.show(machine, journal)

    def redo(self):
        """What was undone last is done again."""
        if not self.undone:
            raise NothingToRedo()
        self.steps = (*self.steps, (self.machine, self.journal))
        machine, journal = self.undone[-1]
        self.undone = self.undone[:-1]
        self.show(machine, journal)

    def step_to(self, machine):
        """The machine behind a further step takes the place of the present one."""
        rows = [order_row(order) for order in machine.log[len(self.orders):]]
        self.steps = (*self.steps, (self.machine, self.journal))
        self.undone = ()
        self.show(machine, "\n".join([self.journal, *rows]))

    def show(self, machine, journal):
        """This machine is kept from now on."""
        self.machine = machine
        self.orders = machine.log
        self.journal = journal

    def trial(self):
        """What a with statement is given: behind its block all is as it was ahead, unless it is kept."""
        return Trial(self)

    def tried(self, look, *, keep=False):
        """Calls a function with the keeper in a trial, which is kept if keep is True; returns what it returns."""
        with self.trial() as block:
            answer = look(self)
            if keep is True:
                block.keep()
        return answer

    def copy(self):
        """An independent keeper with the same content."""
        other = Keeper(self.machine.model)
        other.steps = self.steps
        other.undone = self.undone
        other.show(self.machine, self.journal)
        return other


class Held:
    """What a keeper has as a block begins; whether the block is kept; and what is held of a block around it."""

    def __init__(self, keeper, around):
        self.machine = keeper.machine
        self.orders = keeper.orders
        self.journal = keeper.journal
        self.steps = keeper.steps
        self.undone = keeper.undone
        self.kept = None  # True from when the block is kept
        self.around = around


class Trial:
    """A block within which a keeper is used, and behind which it is as it was ahead, unless the block is kept."""

    def __init__(self, keeper):
        self.keeper = keeper
        self.held = None

    def __enter__(self):
        self.held = Held(self.keeper, self.held)
        return self

    def __exit__(self, kind, value, trace):
        if kind is not None or self.held.kept is None:
            self.keeper.machine = self.held.machine
            self.keeper.orders = self.held.orders
            self.keeper.journal = self.held.journal
            self.keeper.steps = self.held.steps
            self.keeper.undone = self.held.undone
        self.held = self.held.around

    def keep(self):
        """What was done within the block, and will be, stays, unless an error leaves it."""
        if self.held is not None:
            self.held.kept = True


def first_rows(machine):
    """The lines of a journal ahead of the orders, of a machine as it begins."""
    rows = [*model_rows(machine.model), f"knows {shown_words(machine.knows)}"]
    rows.extend([f"roof {shown_words(roof)}" for roof in machine.roofs if len(roof) > 1])
    if machine.unwritten:
        rows.append(f"unwritten {shown_words(machine.unwritten)}")
    return rows


def go_on(machine, many):
    """Lets stations take so many items, at most, while all comes; returns the deeds."""
    deeds = []
    while len(deeds) < many:
        all_come(machine)
        takers = [station[0] for station in machine.model[1] if machine.may_take(station[0])]
        if takers:
            deeds.append(machine.take(takers[0]))
        elif has_items(machine):
            machine.survey()
        else:
            break
    return tuple(deeds)


def all_come(machine):
    """All that is on the way comes, and all that is sent by that."""
    lines = list(range(len(machine.wires)))
    while any([machine.on_way(line) for line in lines]):
        for line in lines:
            while machine.on_way(line):
                machine.come(line)


def has_items(machine):
    """Whether some station has an item."""
    return any([first_item_at(machine, place) is not None for place, _ in enumerate(machine.posts)])

"""The interface: what has landed of it stands in the files that it names, with the arguments that it names."""

import importlib
import inspect
import unittest

from farasnothing.desk import Desk
from farasnothing.errors import FarError
from farasnothing.keeper import Keeper
from farasnothing.machine import Machine
from farasnothing.oneclock import Clock
from farasnothing.pictures import restarted
from tests.samples import MODEL

FUNCTIONS = {
    'stamps': {'is_stamp': 'value', 'later': 'stamp delay', 'ahead_of': 'stamp delay'},
    'models': {'is_model': 'value', 'line_into': 'model station name', 'line_out_of': 'model station name'},
    'handling': {'handled': 'model station worths name it'},
    'reactions': {'state_of': 'machine station', 'all_states': 'model station', 'states_from': 'model station state',
                  'way_to': 'model station state other', 'shows_way': 'model station state other value',
                  'reactions': 'model station states'},
    'knowing': {'known': 'machine station'},
    'rows': {'row': 'machine stations', 'shows_row': 'machine stations value'},
    'guards': {'guarded': 'machine stations safe prices', 'shows_guarded': 'machine stations safe prices value'},
    'pictures': {'restarted': 'model picture knows roofs changes'},
    'bounds': {'soonest': 'machine by', 'bound': 'machine line by', 'why_bound': 'machine line by',
               'shows_bound': 'machine line by value'},
    'relays': {'relayed': 'machine line', 'clock_of': 'machine'},
    'notices': {'fewest': 'machine station most', 'prospects': 'machine'},
    'levels': {'shows_fewest': 'machine station most value'},
    'arranging': {'arranged': 'machine station most prices'},
    'arrangements': {'shows_arranged': 'machine station most prices value'},
    'lengths': {'cheapest': 'machine station time prices'},
    'flows': {'shows_cheapest': 'machine station time prices value'},
    'texts': {'show_model': 'model', 'show_deed': 'deed'},
    'reading': {'read_model': 'text'},
    'journals': {'read_journal': 'text'},
}
CLOCK = {'worths': 'station', 'all_items': '', 'step': '', 'run': 'many'}
MACHINE = {'deeds_of': 'station', 'worths': 'station', 'next_item': 'station', 'waiting': 'station', 'heard': 'line',
           'told': 'line', 'on_way': 'line', 'come': 'line', 'may_take': 'station', 'take': 'station',
           'promise': 'line', 'note': 'line', 'learn': 'station word', 'unite': 'station other', 'survey': '',
           'picture': 'stations', 'mark': 'station', 'marks': 'station', 'fall': 'stations', 'behind': 'station',
           'forget': '', 'back': 'stamp', 'change': 'stamp line delay', 'copy': ''}
KEEPER = {'machine_now': '', 'do': 'order', 'go': 'many', 'undo': '', 'redo': '', 'trial': '', 'tried': 'look keep',
          'copy': ''}


def arguments(act):
    return [name for name in inspect.signature(act).parameters if name != 'self']


class Interface(unittest.TestCase):

    def test_functions(self):
        for name, functions in FUNCTIONS.items():
            module = importlib.import_module('farasnothing.' + name)
            for function, told in functions.items():
                self.assertEqual(getattr(module, function).__module__, 'farasnothing.' + name)
                self.assertEqual(arguments(getattr(module, function)), told.split(), function)

    def test_classes(self):
        for one, methods, file in ((Clock, CLOCK, 'oneclock'), (Machine, MACHINE, 'machine'),
                                   (Keeper, KEEPER, 'keeper'), (Desk, {'say': 'line'}, 'desk')):
            self.assertEqual(one.__module__, 'farasnothing.' + file)
            for method, told in methods.items():
                self.assertEqual(arguments(vars(one)[method]), told.split(), method)
        self.assertEqual(vars(Clock(MODEL))['deeds'], ())
        for name in ('model', 'knows', 'roofs', 'unwritten', 'changes', 'drawn', 'log'):
            self.assertIn(name, vars(Machine(MODEL)))
        keeper = Keeper(MODEL)
        self.assertEqual([vars(keeper)['orders'], type(vars(keeper)['journal'])], [(), str])
        self.assertTrue(vars(Desk(keeper.journal))['keeper'] == keeper)

    def test_what_stands_behind_a_star(self):
        self.assertEqual(str(inspect.signature(Clock)), '(model, *, changes=())')
        self.assertEqual(str(inspect.signature(Machine)),
                         "(model, *, knows='delays', roofs=(), unwritten=(), changes=())")
        self.assertEqual(str(inspect.signature(restarted)),
                         "(model, picture, *, knows='delays', roofs=(), changes=())")
        self.assertEqual(str(inspect.signature(Keeper)), "(model, *, knows='delays', roofs=(), unwritten=())")
        self.assertEqual(str(inspect.signature(Keeper.tried)), '(self, look, *, keep=False)')

    def test_all_that_is_listed_can_be_called_by_the_names_of_its_arguments(self):
        """Each call raises the error of its first wrong argument, none for a name that is not there."""
        machine, keeper = Machine(MODEL), Keeper(MODEL)
        for name, functions in FUNCTIONS.items():
            module = importlib.import_module('farasnothing.' + name)
            for function, told in functions.items():
                if name not in ('pictures', 'stamps', 'models') or 'delay' in told or 'name' in told:
                    named = {one: machine if one == 'machine' else None for one in told.split()}
                    if set(named) - {'machine'}:
                        self.assertRaises(FarError, getattr(module, function), **named)
                    else:
                        self.assertIsNotNone(getattr(module, function)(**named))
        for one, methods in ((machine, MACHINE), (keeper, KEEPER), (Desk(keeper.journal), {'say': 'line'})):
            for method, told in methods.items():
                if told and method not in ('tried', 'trial'):
                    self.assertRaises(FarError, getattr(one, method), **{name: None for name in told.split()})


if __name__ == '__main__':
    unittest.main()

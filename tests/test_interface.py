"""The interface: what has landed of it stands in the files that it names, with the arguments that it names."""

import importlib
import inspect
import unittest

from farasnothing.machine import Machine
from farasnothing.oneclock import Clock
from farasnothing.pictures import restarted
from tests.samples import MODEL

FUNCTIONS = {
    'stamps': {'is_stamp': 'value', 'later': 'stamp delay', 'ahead_of': 'stamp delay'},
    'models': {'is_model': 'value', 'line_into': 'model station name', 'line_out_of': 'model station name'},
    'handling': {'handled': 'model station worths name it'},
    'reactions': {'state_of': 'machine station', 'all_states': 'model station', 'states_from': 'model station state',
                  'way_to': 'model station state other', 'shows_way': 'model station state other value',
                  'reactions': 'model station states'},
    'knowing': {'known': 'machine station'},
    'rows': {'row': 'machine stations', 'shows_row': 'machine stations value'},
    'guards': {'guarded': 'machine stations safe prices', 'shows_guarded': 'machine stations safe prices value'},
    'pictures': {'restarted': 'model picture knows roofs changes'},
    'bounds': {'soonest': 'machine by', 'bound': 'machine line by', 'why_bound': 'machine line by',
               'shows_bound': 'machine line by value'},
    'relays': {'relayed': 'machine line', 'clock_of': 'machine'},
    'notices': {'fewest': 'machine station most', 'prospects': 'machine'},
    'levels': {'shows_fewest': 'machine station most value'},
    'arrangements': {'shows_arranged': 'machine station most prices value'},
}
CLOCK = {'worths': 'station', 'all_items': '', 'step': '', 'run': 'many'}
MACHINE = {'deeds_of': 'station', 'worths': 'station', 'next_item': 'station', 'waiting': 'station', 'heard': 'line',
           'told': 'line', 'on_way': 'line', 'come': 'line', 'may_take': 'station', 'take': 'station',
           'promise': 'line', 'note': 'line', 'learn': 'station word', 'unite': 'station other', 'survey': '',
           'picture': 'stations', 'mark': 'station', 'marks': 'station', 'fall': 'stations', 'behind': 'station',
           'forget': '', 'back': 'stamp', 'change': 'stamp line delay', 'copy': ''}


def arguments(act):
    return [name for name in inspect.signature(act).parameters if name != 'self']


class Interface(unittest.TestCase):

    def test_functions(self):
        for name, functions in FUNCTIONS.items():
            module = importlib.import_module('farasnothing.' + name)
            for function, told in functions.items():
                self.assertEqual(getattr(module, function).__module__, 'farasnothing.' + name)
                self.assertEqual(arguments(getattr(module, function)), told.split(), function)

    def test_classes(self):
        for one, methods, file in ((Clock, CLOCK, 'oneclock'), (Machine, MACHINE, 'machine')):
            self.assertEqual(one.__module__, 'farasnothing.' + file)
            for method, told in methods.items():
                self.assertEqual(arguments(vars(one)[method]), told.split(), method)
        self.assertEqual(vars(Clock(MODEL))['deeds'], ())
        for name in ('model', 'knows', 'roofs', 'unwritten', 'changes', 'drawn', 'log'):
            self.assertIn(name, vars(Machine(MODEL)))

    def test_what_stands_behind_a_star(self):
        self.assertEqual(str(inspect.signature(Clock)), '(model, *, changes=())')
        self.assertEqual(str(inspect.signature(Machine)),
                         "(model, *, knows='delays', roofs=(), unwritten=(), changes=())")
        self.assertEqual(str(inspect.signature(restarted)),
                         "(model, picture, *, knows='delays', roofs=(), changes=())")


if __name__ == '__main__':
    unittest.main()

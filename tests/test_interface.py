"""The interface: each name in its file, with the parameters that the document tells."""

import ast
import importlib
import inspect
import pathlib
import unittest

FOLDER = pathlib.Path(__file__).resolve().parent.parent / 'dyedpours'

FUNCTIONS = {
    'moves': {
        'taken': 'yard number', 'brought': 'yard number', 'meets': 'yard vessel', 'all_spots': 'yard',
        'still': 'yard spot', 'glass': 'yard number', 'end_of': 'yard spot',
    },
    'exchange': {
        'may_exchange': 'yard number', 'exchanged': 'yard number', 'normal': 'yard', 'same_steps': 'one other',
        'shows_same_steps': 'one other value', 'joined': 'yard number', 'parted': 'yard number amount',
    },
    'mixings': {
        'judged': 'yard row', 'dye': 'yard row spot', 'stands': 'yard row moment', 'broken': 'yard row',
        'eager': 'yard', 'shy': 'yard',
    },
    'every': {'every': 'yard', 'numbers_of': 'yard step', 'next_mixing': 'yard row'},
    'grains': {
        'between': 'yard one other', 'path': 'yard one other', 'shows_path': 'yard one other value',
        'longest': 'yard one other',
    },
    'cuts': {
        'bounds': 'yard spot', 'into': 'yard cut', 'out_of': 'yard cut', 'lets': 'yard lot cut',
        'wants': 'yard lot cut', 'lets_one': 'yard spot cut', 'wants_one': 'yard spot cut',
    },
    'lots': {
        'fitting': 'yard', 'shows_fitting': 'yard value', 'greatest': 'yard lot', 'shows_greatest': 'yard lot value',
        'least': 'yard lot', 'shows_least': 'yard lot value', 'highest': 'yard spot',
        'shows_highest': 'yard spot value', 'lowest': 'yard spot', 'shows_lowest': 'yard spot value', 'ranges': 'yard',
    },
    'tables': {'holders': 'yard moment', 'most_at': 'yard moment lot', 'table': 'yard moment'},
    'standing': {
        'can_stand': 'yard moment dyes', 'shows_can_stand': 'yard moment dyes value', 'standings': 'yard moment',
    },
    'heights': {
        'worth': 'yard row weights', 'slope': 'yard weights heights spot', 'borne': 'yard weights heights',
        'least_worth': 'yard weights', 'shows_least_worth': 'yard weights value', 'greatest_worth': 'yard weights',
        'shows_greatest_worth': 'yard weights value',
    },
    'differences': {
        'weights_of': 'yard spot', 'difference': 'yard one other', 'together': 'yard spots', 'fixed': 'yard',
        'alike': 'yard one other', 'shows_alike': 'yard one other value',
    },
    'sure': {'sure': 'yard claim', 'shows_sure': 'yard claim value', 'sure_dye': 'yard', 'clean': 'yard'},
    'needless': {
        'by_samples': 'yard numbers', 'needless': 'yard', 'thinned': 'yard', 'within': 'one other',
        'shows_within': 'one other value',
    },
    'quarrels': {
        'quarrels': 'yard', 'torn': 'yard numbers', 'shows_torn': 'yard numbers value', 'mended': 'yard',
        'shows_mended': 'yard value', 'blamed': 'yard',
    },
    'sources': {
        'washed': 'yard marks', 'alone': 'yard number', 'share': 'yard marks lot', 'sources': 'yard number',
        'reached': 'yard number', 'pairs_of': 'yard', 'led': 'yard number end', 'shows_led': 'yard number end value',
    },
    'backward': {'backward': 'yard lot', 'turned_end': 'yard number', 'turned_mixing': 'yard lot marks row'},
    'leaks': {
        'others_of': 'yard lot', 'leak': 'yard lot', 'least_caught': 'yard lot', 'waste': 'yard lot', 'safe': 'yard',
        'sure_ends': 'yard', 'worst': 'yard',
    },
    'recalls': {
        'holds': 'yard lot most', 'shows_holds': 'yard lot most value', 'holding': 'yard most', 'vital': 'yard most',
        'fewest': 'yard most', 'shows_fewest': 'yard most value', 'cheapest_lot': 'yard prices most',
        'shows_cheapest_lot': 'yard prices most value',
    },
    'questions': {
        'answer': 'yard row question', 'known': 'yard question', 'left_by': 'yard answers',
        'shows_left_by': 'yard answers value', 'tells': 'yard spot question', 'shows_tells': 'yard spot question value',
        'tellers': 'yard question',
    },
    'asking': {
        'asks': 'yard questions aim', 'shows_asks': 'yard questions aim value', 'wanted': 'yard questions aim',
    },
    'beside': {
        'less_than': 'one other', 'shows_less_than': 'one other value', 'even': 'one other',
        'shows_even': 'one other value', 'harmless': 'yard', 'outcome': 'yard row',
    },
    'changing': {
        'by_choice': 'yard offers choice', 'cheapest': 'yard offers wishes',
        'shows_cheapest': 'yard offers wishes value',
    },
    'journals': {'journal': 'wharf', 'read_journal': 'text'},
    'rounds': {'again': 'yard block many', 'turns': 'yard block', 'until': 'yard block lot most'},
}
METHODS = {
    ('yards', 'Yard'): {
        'amount': 'spot', 'level': 'vessel moment', 'with_step': 'step', 'with_sample': 'sample',
        'without_sample': 'number', 'bare': '', '__init__': 'text', '__eq__': 'other', '__len__': '', '__contains__': 'x',
    },
    ('wharves', 'Wharf'): {
        'most': 'spot', 'least': 'spot', 'now': 'vessel', 'fill': 'vessel amount', 'dye': 'vessel amount',
        'pour': 'one other amount', 'draw': 'vessel amount', 'sample': 'word number spot', 'undo': '', 'redo': '',
        'trial': '', 'keep': '', 'tried': 'look keep', 'copy': '', '__init__': 'vessels', '__eq__': 'other',
        '__len__': '', '__contains__': 'x',
    },
    ('desk', 'Desk'): {'say': 'line', '__init__': 'text'},
}
ATTRIBUTES = (
    ('yards', 'Yard', 'vessels a', 'text vessels steps samples ends'), ('wharves', 'Wharf', ('a',), 'yard vessels done'),
    ('desk', 'Desk', 'vessels a', 'wharf'),
)


def parameters(call):
    """The names of the parameters, parted by blanks."""
    return ' '.join(inspect.signature(call).parameters)


class Interface(unittest.TestCase):
    def test_functions(self):
        for module, functions in FUNCTIONS.items():
            found = importlib.import_module('dyedpours.' + module)
            tree = ast.parse((FOLDER / (module + '.py')).read_text())
            defined = [node.name for node in tree.body if isinstance(node, ast.FunctionDef)]
            for name, told in functions.items():
                self.assertIn(name, defined)
                self.assertEqual(parameters(getattr(found, name)), told, name)

    def test_methods(self):
        for (module, its), methods in METHODS.items():
            found = getattr(importlib.import_module('dyedpours.' + module), its)
            self.assertEqual(found.__module__, 'dyedpours.' + module)
            for name, told in methods.items():
                self.assertEqual(parameters(vars(found)[name]), ('self ' + told).strip(), name)
        tried = inspect.signature(importlib.import_module('dyedpours.wharves').Wharf.tried).parameters
        self.assertEqual((tried['keep'].kind, tried['keep'].default), (inspect.Parameter.KEYWORD_ONLY, False))

    def test_attributes(self):
        for module, its, argument, names in ATTRIBUTES:
            made = getattr(importlib.import_module('dyedpours.' + module), its)(argument)
            for name in names.split(' '):
                self.assertIn(name, vars(made))

    def test_the_package_holds_nothing_but_modules(self):
        for path in FOLDER.iterdir():
            self.assertTrue(path.suffix == '.py' or path.name == '__pycache__', path)
        self.assertTrue((FOLDER / '__init__.py').exists())


if __name__ == '__main__':
    unittest.main()

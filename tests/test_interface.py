"""The interface: names, parameters, and the files in which they are defined."""

import ast
import importlib
import inspect
import unittest

STAGE_1 = {
    "alphabet": ("is_text(thing)", "check_text(thing, most)", "code_of(sign)", "sign_of(code)", "kind_of(sign)",
                 "is_name(thing)"),
    "textlines": ("rows_of(text)", "joined(rows)", "spot_of(text, place)", "place_of(text, line, column)",
                  "row_bounds(text, line)"),
    "quoting": ("quote(text)", "unquote(line, at)", "number_at(line, at)", "name_at(line, at)"),
    "linewords": ("words_of(line)",),
    "splicing": ("check_round(size, splices)", "spliced(text, splices)", "back_round(text, splices)",
                 "moved_place(place, side, splices)", "led_past(first, second)"),
    "leastsplice": ("least_splice(before, after)",),
    "birthrows": ("fresh_births()", "born(births, deed, left, right, text)", "is_sign(births, thing)",
                  "letter_of(births, sign)", "chunk_size(births, chunk)"),
    "hopping": ("told_ahead(births, one, other)", "at_or_ahead(births, one, other)", "hops_of(births, one, other)"),
    "lattice": ("meet_of(births, one, other)", "join_of(births, one, other)"),
    "stands": ("has_deed(stand, deed)", "turned(stand, deeds)", "deeds_of(stand)", "stand_of(deeds)",
               "is_shown(births, cuts, stand, sign)"),
    "keepers": ("laid_out(births, choices)", "own_keeper(births)", "shown_by(births, cuts, keeper, stand)",
                "letters_of(births, signs)", "is_keeper(births, thing)"),
    "settledrows": ("first_untold(births, row)", "is_settled(births, cuts, stand)", "row_of(births, cuts, stand)",
                    "text_of(births, cuts, stand)"),
}

FUNCTIONS = STAGE_1
METHODS = {}


class TestInterface(unittest.TestCase):

    def test_functions(self):
        for module, lines in FUNCTIONS.items():
            loaded = importlib.import_module("deedstand." + module)
            tree = ast.parse(inspect.getsource(loaded))
            defined = {node.name for node in tree.body if isinstance(node, ast.FunctionDef)}
            for line in lines:
                name, _, rest = line.partition("(")
                self.assertIn(name, defined)
                self.assertEqual(str(inspect.signature(getattr(loaded, name))), "(" + rest)

    def test_methods(self):
        for (module, kind), lines in METHODS.items():
            loaded = getattr(importlib.import_module("deedstand." + module), kind)
            self.assertEqual(loaded.__module__, "deedstand." + module)
            for line in lines:
                name, _, rest = line.partition("(")
                self.assertIn(name, vars(loaded))
                self.assertEqual(str(inspect.signature(vars(loaded)[name])), "(" + rest)


if __name__ == "__main__":
    unittest.main()

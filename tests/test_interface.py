"""The interface: names, parameters, and the files in which they are defined."""

import ast
import importlib
import inspect
import unittest

STAGE_1 = {
    "alphabet": ("is_text(thing)", "check_text(thing, most)", "code_of(sign)", "sign_of(code)", "kind_of(sign)",
                 "is_name(thing)"),
    "textlines": ("rows_of(text)", "joined(rows)", "spot_of(text, place)", "place_of(text, line, column)",
                  "row_bounds(text, line)"),
    "quoting": ("quote(text)", "unquote(line, at)", "number_at(line, at)", "name_at(line, at)"),
    "linewords": ("words_of(line)",),
    "splicing": ("check_round(size, splices)", "spliced(text, splices)", "back_round(text, splices)",
                 "moved_place(place, side, splices)", "led_past(first, second)"),
    "leastsplice": ("least_splice(before, after)",),
    "birthrows": ("fresh_births()", "born(births, deed, left, right, text)", "is_sign(births, thing)",
                  "letter_of(births, sign)", "chunk_size(births, chunk)"),
    "hopping": ("told_ahead(births, one, other)", "at_or_ahead(births, one, other)", "hops_of(births, one, other)"),
    "lattice": ("meet_of(births, one, other)", "join_of(births, one, other)"),
    "stands": ("has_deed(stand, deed)", "turned(stand, deeds)", "deeds_of(stand)", "stand_of(deeds)",
               "is_shown(births, cuts, stand, sign)"),
    "keepers": ("laid_out(births, choices)", "own_keeper(births)", "shown_by(births, cuts, keeper, stand)",
                "letters_of(births, signs)", "is_keeper(births, thing)"),
    "settledrows": ("first_untold(births, row)", "is_settled(births, cuts, stand)", "row_of(births, cuts, stand)",
                    "text_of(births, cuts, stand)"),
}

STAGE_2 = {
    "chainpapers": ("chain_paper(births, row)", "chain_fits(births, row, paper)"),
    "refusals": ("two_choices(births, cuts, stand)", "untold_stretch(births, one, other)"),
    "judges": ("choices_fit(births, cuts, stand, thing)",),
    "treenodes": ("node_of(left, piece, right, births)", "height_of(tree)", "shown_of(tree)", "feeds_of(tree)",
                  "signs_in(tree)", "mask_of(tree)"),
    "treejoins": ("joined_by(left, piece, right, births)", "joined_two(left, right, births)",
                  "first_taken(tree, births)", "built(pieces, births)"),
    "treecuts": ("cut_shown(tree, births, place)", "cut_by(tree, births, deed, place, many)",
                 "laid_in(tree, births, place, chunk, *, choice=0)"),
    "treefinds": ("sign_shown(tree, place)", "feed_place(tree, births, many)", "feeds_ahead(tree, births, place)",
                  "shown_ahead(tree, births, sign)"),
    "restanding": ("restood(tree, births, stand, flip)",),
    "treereading": ("pieces_of(tree)", "signs_of(tree)", "text_between(tree, births, low, high)",
                    "is_sound(tree, births, stand)", "tidied(tree, births)"),
    "weaves": ("fresh_weave()",),
    "nodeways": ("parent_of(nodes, node)", "children_of(nodes, node)", "path_of(nodes, node)",
                 "stand_at(nodes, node)", "road_between(nodes, one, other)", "replayed(nodes, node)"),
    "cutstretches": ("joined_cuts(stretches)", "cut_signs(stretches)"),
    "gapplaces": ("gap_of(births, row, sign)", "anchor_place(births, row, anchor)", "anchor_at(row, place, side)"),
}

STAGE_3 = {
    "turning": ("coming_back(births, cuts, stand, deeds)", "touching_of(births, cuts, stand, deed)",
                "clash_of(births, cuts, stand)"),
    "felling": ("fell_deeds(births, cuts, stand, deed)",),
    "plainzones": ("plain_strike(deeds, which)",),
    "ledways": ("led_strike(text, splices, which)",),
    "pickmarks": ("pick_held(sheet, tail, head)", "pick_told(sheet, held)"),
    "settling": ("settled_picks(picks)", "joined_stretches(stretches)"),
    "motions": ("moved(text, place, word)",),
    "entering": ("put_round(picks, text)", "back_cuts(picks, text, many)", "ahead_cuts(picks, text, many)"),
    "clips": ("clipped(text, picks)", "paste_round(picks, rows)"),
    "folding": ("fold_held(sheet, first, last)", "fold_hides(sheet, held)", "hidden_lines(sheet, folds)"),
}

STAGE_4 = {
    "patterntrees": ("bits_of(signs)", "holds(bits, sign)"),
    "patternreading": ("read_pattern(text)",),
    "patternwriting": ("written(tree)",),
    "machines": ("state_many(tree)", "machine_of(tree)"),
    "closures": ("closed(machine, states, at_start, at_end)",),
    "plainends": ("tree_ends(tree, text, at)",),
    "matching": ("ends_of(machine, text, at)", "longest(machine, text, at)"),
    "findhits": ("first_hit(machine, text, at)", "last_hit(machine, text, before)",
                 "next_hit(machine, text, behind)", "all_hits(machine, text)"),
    "filling": ("filled(new, hit)",),
    "hitrounds": ("sub_round(machine, text, new, stretches)",),
    "bookreading": ("read_book(rows)", "first_mode(book)", "mode_names(book)"),
    "lexing": ("lexed(book, mode, row)",),
}

STAGE_5 = {
    "plaintints": ("tints_from_nothing(book, rows)",),
    "depths": ("front_of(row)", "depth_of(book, mode, row)", "closes(book, mode, row)"),
    "indenting": ("indent_round(book, text, first, last)", "feed_front(book, mode, row)"),
    "laying": ("laid(row, width, *, wordwise=False)",),
    "rowplaces": ("row_at(screen_rows, line, column)", "place_in(screen_rows, line, column, width)"),
    "scrolling": ("top_row(first, caret, height)",),
    "plainscreens": ("screen_of(text, width, height, *, wordwise=False, book=None, picks=(), folds=(), top=0)",),
    "keptscreens": ("kept_screen(view, sheet, tints, layout)",),
    "painting": ("paints(old, new)", "painted(old, runs)"),
    "stamps": ("number_for(stamp, code)", "stamp_of(number)", "code_in(number)"),
    "disks": ("slot_first(disk, epoch)", "journal_first(disk)", "files_first(disk)"),
}

STAGE_6 = {
    "regions": ("read_region(disk, first, many, stamp)", "put_region(disk, first, codes, start, stamp)"),
    "recordkinds": ("is_record(thing)",),
    "recordtexts": ("row_of_record(record)",),
    "recordreading": ("record_of(row)",),
    "openings": ("opened(records, *, moment=0)", "meaning_of(disk)"),
    "keptrows": ("kept_rows(records)",),
    "chainblocks": ("chain_of(disk, first)", "free_blocks(disk)"),
    "commandwords": ("read_command(line)",),
    "rolls": ("read_roll(rows)",),
}

FUNCTIONS = {**STAGE_1, **STAGE_2, **STAGE_3, **STAGE_4, **STAGE_5, **STAGE_6}
METHODS = {
    ("weaves", "Weave"): (
        "__init__(self, births, stand, tree)", "text(self)", "size(self)", "row_many(self)", "row(self, line)",
        "row_start(self, line)", "spot(self, place)", "place_at(self, line, column)", "sign_before(self, place)",
        "sign_behind(self, place)", "stretch(self, low, high)", "row_signs(self)",
        "laid_round(self, deed, splices, *, choices=())", "turned_to(self, stand)", "tidy(self)",
    ),
    ("sheetbase", "SheetBase"): (
        "__init__(self, name, *, choices=())", "do(self, rounds)", "do_at(self, parent, rounds)", "undo(self)",
        "redo(self, *, child=None)", "go(self, node)", "text(self)", "size(self)", "row_many(self)",
        "row(self, line)", "spot(self, place)", "place_at(self, line, column)", "stretch(self, low, high)",
        "row_signs(self)", "standing(self)", "tidy(self)", "text_at(self, node)", "standing_at(self, node)",
        "parent(self, node)", "children(self, node)", "path(self, node)", "road(self, one, other)",
    ),
    ("sheetmarks", "SheetMarks"): (
        "__init__(self, name, *, choices=())", "anchor(self, place, side)", "where(self, anchor)",
        "gap(self, sign)", "set_mark(self, name, anchor)", "drop_mark(self, name)", "mark_places(self)",
    ),
    ("sheets", "Sheet"): (
        "__init__(self, name, *, choices=())", "turn(self, deeds)", "strike(self, deed)", "stand_up(self, deed)",
        "fell(self, deed)", "can_turn(self, deed)", "turnable(self)", "touching(self, deed)",
        "paper(self, deeds)", "trial(self)", "plain(self)",
    ),
    ("views", "View"): (
        "__init__(self, *, width=80, height=24, wordwise=False)", "places(self, sheet)", "hold(self, sheet, picks)",
        "fold(self, sheet, first, last)", "unfold(self, sheet, line)", "hidden(self, sheet)",
        "top_place(self, sheet)", "set_top(self, sheet, line)", "resize(self, width, height)",
        "wrap(self, wordwise)", "dye(self, book)",
    ),
    ("tintkeeping", "Tints"): (
        "__init__(self, book)", "refresh(self, rows)", "row_spans(self, line)", "row_mode(self, line)",
    ),
    ("layouts", "Layout"): (
        "__init__(self, width, *, wordwise=False)", "refresh(self, rows)", "bounds(self, line)",
        "screen_rows(self, hidden)",
    ),
    ("disks", "Disk"): (
        "__init__(self, *, width=16, slot=8, journal=8, files=16)", "block_many(self)", "read(self, block)",
        "write(self, block, numbers)", "flush(self)", "limit(self, many)", "pending(self)", "crash(self, landed)",
    ),
    ("lastingstate", "Lasting"): ("__init__(self)", "tell(self, record)", "trial(self)", "plain(self)"),
    ("journals", "Journal"): (
        "__init__(self, disk)", "told(self)", "sure(self)", "records(self)", "fits(self, records)",
        "tell(self, record)", "rest(self)",
    ),
    ("shelves", "Shelf"): (
        "__init__(self, disk)", "names(self)", "load(self, name)", "version_of(self, name)", "room(self, name, text)",
        "save(self, name, text, version)", "drop(self, name)",
    ),
    ("desks", "Desk"): (
        "__init__(self, disk)", "told(self)", "sure(self)", "plain(self)", "sheets(self)", "text(self, name)",
        "sheet(self, name)", "hand(self, name)", "tell(self, records)", "crash(self, landed)",
    ),
    ("hands", "Hand"): (
        "__init__(self, desk, name)", "say(self, line)", "run(self, roll)", "screen(self)", "paints(self)",
        "picks(self)", "sheet_name(self)",
    ),
}


class TestInterface(unittest.TestCase):

    def test_functions(self):
        for module, lines in FUNCTIONS.items():
            loaded = importlib.import_module("deedstand." + module)
            tree = ast.parse(inspect.getsource(loaded))
            defined = {node.name for node in tree.body if isinstance(node, ast.FunctionDef)}
            for line in lines:
                name, _, rest = line.partition("(")
                self.assertIn(name, defined)
                self.assertEqual(str(inspect.signature(getattr(loaded, name))), "(" + rest)

    def test_methods(self):
        for (module, kind), lines in METHODS.items():
            loaded = getattr(importlib.import_module("deedstand." + module), kind)
            self.assertEqual(loaded.__module__, "deedstand." + module)
            for line in lines:
                name, _, rest = line.partition("(")
                self.assertIn(name, vars(loaded))
                self.assertEqual(str(inspect.signature(vars(loaded)[name])), "(" + rest)


if __name__ == "__main__":
    unittest.main()

"""The names of the interface: each in its file, with its parameters, each method in its class."""

import ast
import importlib
import inspect
import unittest

from weavestore import disc, errors, hangs, lines, store, transactions, versions

ROWS = {
    "disc": "Disc(cells); may_hold(disc, cell), many_pictures(disc), picture_at(disc, number), "
            "number_of_picture(disc, picture), is_picture(disc, value), disc_of(picture), fall(disc, picture), "
            "cloud(disc, runs), is_in_cloud(cloud, value), many_in_cloud(cloud), unlike_cells(one, other), "
            "with_cells(one, harms)",
    "codes": "is_code(value), is_picture(code, one, other, value, changed, unread), twos(code, value, changed, unread), "
             "told_pages(code, value, changed, unread), told_page(code, value, changed, unread), "
             "is_safe(code, changed, unread), cells_unlike(code, one, other, third), cells_parted(code, pair, late), "
             "bad_picture(code, changed, unread), is_bad_picture(code, changed, unread, value), strengths(code), "
             "composed(code, inner), overwritten(code, value, one, cells)",
    "lines": "Line(prime, cells, size); page_of(line, number), number_of(line, page), holds(line, changed, unread), "
             "agreeing(line, number, value), read_line(line, value, changed, unread), "
             "mixture_of(line, number, other, cells)",
    "pages": "text_number(text), number_text(number), page_line(), page_cells(place), page_writes(place, text), "
             "shown(picture, place), is_whole(picture, place), off_cells(picture, place), mending(picture, place), "
             "agreement(picture, place)",
    "waits": "is_run(value), are_waits(run, value), may_stand(run, moment), is_moment_picture(run, moment, value), "
             "is_kept(run, wait), why_broken(run, wait), is_why_broken(run, wait, value), broken(run, waits), "
             "is_enough(run, waits, places), barriers_for(run, waits), many_least(run, waits), apart_waits(run, waits), "
             "are_apart(run, waits, value), with_barriers(run, places), waits_then(run, waits, places), bare(run), "
             "needless(run, waits), spared(run, waits), woven(one, other, order), "
             "waits_woven(one, waits, other, late, order), best_order(one, waits, other, late), "
             "is_best_order(one, waits, other, late, value), syncs(due), served(due, moments)",
    "deeds": "is_deed(value), are_deeds(value), stamps_behind(deeds, number), stamps_read(deeds, number), "
             "are_stamps(deeds, value), walked(deeds, stamps, numbers), are_right(deeds, stamps), redone(deeds, stamps), "
             "why_wrong(deeds, stamps), is_why_wrong(deeds, stamps, value), newest_right(deeds, stamps), "
             "next_right(deeds, stamps), all_mixes_right(deeds, one, other), wrong_mix(deeds, one, other), "
             "is_wrong_mix(deeds, one, other, value)",
    "backs": "waits(deeds, stamps), free_pages(deeds, stamps), ring(deeds, stamps), is_ring(deeds, stamps, value), "
             "groups(deeds, stamps), row_of_waits(deeds, stamps), is_row_of_waits(deeds, stamps, value), "
             "closes_ring(deeds, stamps, deed), ahead_of(deeds, stamps, deed), "
             "may_write(deeds, stamps, page, lines, unbarred, mixed), "
             "why_not_write(deeds, stamps, page, lines, unbarred, mixed)",
    "chain": "deed_text(deed), deed_by(number, text), line_cells(line), line_at(cells), chain(places, start, ahead), "
             "committed(chain), next_number(places, least), next_place(places, start, ahead), "
             "ghosts(places, start, ahead)",
    "opening": "opened(stamps, lines, ahead), told_pages(stamps, lines, lost, number), "
               "why_untold(stamps, lines, lost, number, page), "
               "is_why_untold(stamps, lines, lost, number, page, value), losses(stamps, lines, number, page), "
               "greatest_told(stamps, lines, lost, pages), lines_told(stamps, lines)",
    "room": "is_life(value), given_up(life, moment), still_needed(life, moment), fits(life, places), "
            "first_full(life, places), least_places(life), roots_for(life, places), apart_lines(life, places), "
            "are_apart_lines(life, places, value), with_roots(life, positions), places_with(life, roots), "
            "disc_cells(pages, places), most_places(cells, pages)",
    "versions": "Book(rows, newest); state_at(book, commit), laid(book, commit, writes), look(book, commit, key), "
                "between(book, commit, low, high), first_from(book, commit, key), "
                "many_between(book, commit, low, high), seen(book, commit), sees(book, commit, key, number), "
                "span_of(book, key, number), history_of(book, key), commits_of(book), writes_of(book, number)",
    "clearing": "may_go(book, held, standing), must_stay(book, held, standing), cleared(book, held, standing), "
                "who_sees(book, held, standing, key, number), is_same_for(one, other, held, standing), "
                "is_cleared(book, held, standing)",
    "tables": "is_right(state), forms(state), tables(state), row_writes(state, table, elder, newer), behind(key), "
              "by_index(state, index, low, high), why_wrong(state), is_why_wrong(state, value), is_table_key(key)",
    "questions": "passes(columns, test, row), plain_answer(state, wish), wish_text(wish), read_wish(text), "
                 "answer_of(state, text), deed_text(deed), read_deed(text), deed_of(state, text), "
                 "stretches(columns, test, column), ways(state, wish), looked(state, wish, way), "
                 "answer_by(state, wish, way), best_way(state, wish)",
    "transactions": "is_question(value), answer(state, question), laid_over(state, writes); Weave(book, standing)",
    "histories": "is_history(value), is_right(history), first_wrong(history), right_event(history), states_of(history), "
                 "standing_of(history), fates(history), told_places(history), row_of(history), is_row(history, value), "
                 "all_rows(history), falls_of(history), with_fall(history, place, number), "
                 "kept_by(history, place, number)",
    "weavings": "is_program(value), done_alone(state, program), behind_row(state, programs, row), "
                "woven(state, programs, order), endings(state, programs), rows_to(state, programs, ending), "
                "most_refusals(state, programs), refusing_order(state, programs), "
                "is_refusing_order(state, programs, value), never_refused(state, programs), once_rows(state, programs)",
    "hangs": "changes_of(one, other), kept(state, wish), told_by(wish, held), led_on(columns, wish, held, changes), "
             "hangs(state, wish, changes), is_beside(columns, wish, change), parting_rows(columns, wish, change), "
             "is_parting(columns, wish, change, value); Standing(state, wishes)",
    "differences": "difference(book, one, other), looked_through(book, one, other), laid_over(state, difference), "
                   "turned_back(difference), one_behind(first, second), meets(first, second), both_of(first, second), "
                   "merged(book, base, mine, theirs), table_changes(book, one, other)",
    "shelves": "is_shelf(value), new_shelf(pages), page_of(shelf, key), keys_of(shelf, page), book_in(shelf, newest), "
               "is_tidy(shelf), content_text(page, content), content_by(page, text), page_text(page, content, stamp), "
               "page_by(page, text), made(shelf, deed), behind(shelf, deeds), "
               "commit_deeds(shelf, commit, writes, number), clear_deeds(shelf, held, standing, number), "
               "join_deeds(shelf, number), pins_in(shelf), root_of(shelf), pin_deed(shelf, name, commit, number), "
               "unpin_deed(shelf, name, number), begin_deed(shelf, line, place, newest, number)",
    "store": "Store(pages, places), replayed(store, record)",
    "papers": "key_text(key), read_key(text), thing_text(thing), read_thing(text), writes_text(writes), "
              "read_writes(text), picture_text(picture), read_picture(text), book_text(book), read_book(text), "
              "history_text(history), read_history(text)",
    "scripts": "play(store, script), script_text(script), read_script(text), end_of(pages, places, script), "
               "shortened(pages, places, script), ends_by_choices(pages, places, script, lists)",
}
METHODS = [
    (disc.Disc, "write(cell, content), barrier(), read(cell), cells(), standing(), newest(), pending(), copy()", True),
    (lines.Line, "prime(), cells(), size()", True),
    (versions.Book, "rows(), newest()", True),
    (transactions.Weave,
     "book(), standing(), newest(), under_way(), held(), begin(name, kind), ask(name, question), put(name, key, thing), "
     "drop(name, key), deed(name, text), give_up(name), end(name), would_end(name), looks_of(name), writes_of(name), "
     "turned_looks(name), stand(number), fall(number), clear(pins), copy(), is_told(outcome)", False),
    (hangs.Standing, "lead(changes), answers(), turned(), looked_at()", False),
    (store.Store,
     "begin(name, kind), ask(name, question), put(name, key, thing), drop(name, key), deed(name, text), give_up(name), "
     "would_end(name), looks_of(name), writes_of(name), turned_looks(name), under_way(), held(), book(), newest(), "
     "standing(), is_told(outcome), end(name), ahead(name), free_places(), sync(), why_not_write(page), "
     "write_back(page), mend(page), mixed_pages(), root(), clear(), join(), pin(name, commit), unpin(name), pins(), "
     "cut(many), fall(picture), harm(harms), wake(), is_down(), disc(), shelf(), stamps(), stamps_standing(), lines(), "
     "lines_standing(), run(), waits(), trial(), attempt(action), copy(), record()", False),
]
ERRORS = (
    "InvalidDisc InvalidCell InvalidContent InvalidChoice InvalidCode InvalidPage InvalidLine InvalidRun InvalidMoment "
    "InvalidOrder InvalidDeed InvalidDeeds InvalidStamps InvalidChain InvalidBook InvalidKey InvalidThing InvalidWrites "
    "InvalidCommit InvalidSnapshot InvalidHeld InvalidQuestion InvalidName InvalidKind InvalidTransaction "
    "InvalidHistory InvalidPrograms InvalidShelf InvalidState InvalidTable InvalidRow InvalidText InvalidStore "
    "InvalidSpot InvalidScript InvalidRecord InvalidCount Unlike Full Refused Fallen"
).split()


def told(row):
    """The tuples of a name and of the list of its parameters."""
    calls = ast.parse("[" + row.replace(";", ",") + "]").body[0].value.elts
    return [(call.func.id, [part.id for part in call.args]) for call in calls]


class InterfaceTest(unittest.TestCase):
    def test_names_and_parameters_in_their_files(self):
        for module, row in ROWS.items():
            held = importlib.import_module("weavestore." + module)
            for name, parameters in told(row):
                member = getattr(held, name)
                self.assertEqual(list(inspect.signature(member).parameters), parameters, name)
                self.assertEqual(member.__module__, "weavestore." + module)
                self.assertTrue(inspect.isfunction(member) or inspect.isclass(member))

    def test_methods_in_their_classes(self):
        for held, row, compared in METHODS:
            for name, parameters in told(row):
                self.assertIn(name, vars(held))
                self.assertEqual(list(inspect.signature(vars(held)[name]).parameters), ["self"] + parameters)
            self.assertIs("__eq__" in vars(held), compared)

    def test_errors(self):
        self.assertEqual(errors.StoreError.__bases__, (ValueError,))
        for name in ERRORS:
            member = getattr(errors, name)
            self.assertEqual(member.__bases__, (errors.StoreError,))
            self.assertEqual(member.__module__, "weavestore.errors")
            self.assertEqual(str(inspect.signature(member)), "(value=None)")
        self.assertEqual(len(ERRORS), 41)


class ErrorsTest(unittest.TestCase):
    def test_the_field_is_the_very_object(self):
        for name in ERRORS:
            for value in [None, True, 0, "x", [], (), {}, disc.Disc(1), ValueError]:
                self.assertIs(getattr(errors, name)(value).value, value)
                self.assertIs(getattr(errors, name)(value=value).value, value)
            self.assertIsNone(getattr(errors, name)().value)

    def test_errors_are_caught_as_store_errors(self):
        for name in ERRORS:
            with self.assertRaises(errors.StoreError):
                raise getattr(errors, name)(name)
            with self.assertRaises(ValueError):
                raise getattr(errors, name)()
        others = [getattr(errors, name) for name in ERRORS]
        for one in others:
            self.assertEqual([other for other in others if issubclass(one, other)], [one])

    def test_the_base_is_made_of_nothing(self):
        self.assertEqual(errors.StoreError().args, ())
        with self.assertRaises(TypeError):
            errors.StoreError(1)


if __name__ == "__main__":
    unittest.main()

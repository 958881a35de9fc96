"""The names, parameters and kinds of methods of the interface, file by file."""

import importlib
import inspect
import unittest

FUNCTIONS = {
    "losses": [
        "loss(beam, i, begin, j, end)", "least_route(beam, i, begin, j, end)",
        "route_sum(beam, i, begin, j, end, value)"],
    "moving": ["can_move(beam, tick, places, later, others)", "earliest_arrival(beam, tick, places, others)"],
    "pairs": [
        "excess(book, one, i, other, j)", "breach(book, one, i, other, j)",
        "is_breach(book, one, i, other, j, value)", "misfit(book, name, number)", "fitting(book, name)",
        "are_compatible(book, one, i, other, j)"],
    "links": [
        "is_node(book, value)", "pushed_to(book, one, i, other)", "link_word(book, node, following)",
        "is_chain(book, value)", "links(book)"],
    "assignments": [
        "is_assignment(book, value)", "least_assignment(book)", "greatest_assignment(book)", "refusal(book)",
        "is_refusal(book, value)"],
    "motions": [
        "lowest_places(book, assignment, tick)", "highest_places(book, assignment, tick)",
        "lowest_of_all(book, tick)", "highest_of_all(book, tick)", "motion_rows(book, assignment, first, last)"],
    "logs": [
        "first_wrong_row(beam, log)", "log_fits(book, assignment, log)",
        "lowest_with_log(book, assignment, log, tick)"],
    "choices": [
        "least_from(book, name, number)", "assignment_with(book, name, number)", "exclusion(book, name, number)",
        "is_exclusion(book, name, number, value)", "surely_left(book, one, other)", "left_chains(book, one, other)",
        "are_left_chains(book, one, other, value)", "not_left(book, one, other)"],
    "classes": [
        "classes(book)", "differing_classes(book, assignment, other)", "steps_between(book, assignment, other)",
        "are_steps(book, value)"],
    "comparing": [
        "difference(book, other)", "is_needless(book, name)", "stuck_rest(book, name)", "blocking_jobs(book)"],
    "prices": [
        "price_of(book, prices, assignment)", "cheapest(book, prices)", "amounts_for(book, prices)",
        "bound_of(book, prices, amounts)", "fewest_changes(book, wanted)"],
    "limits": ["least_speed(book, *, parts=1)", "spare_room(book)"],
    "spaces": [
        "beside(book, number, tick, place, name)", "free_places(book, number, tick)",
        "assignment_beside(book, number, tick, place)", "barring(book, number, tick, place)",
        "is_barring(book, number, tick, place, value)"],
    "turnbooks": ["turn_loss(book, i, begin, j, end)"],
    "turnlinks": [
        "turn_excess(book, one, i, other, j, turn)", "turn_compatible(book, one, i, other, j, turn)",
        "turn_misfit(book, name, number)", "turn_pushed_to(book, one, i, other, turn)",
        "is_turn_chain(book, value)"],
    "folds": [
        "is_repeated(book, value)", "least_repeated(book)", "greatest_repeated(book)", "turn_refusal(book)",
        "is_turn_refusal(book, value)", "lowest_in_turns(book, assignment, tick)",
        "highest_in_turns(book, assignment, tick)"],
    "windows": [
        "least_in_window(book, many)", "is_window(book, value)", "window_refusal(book, many)",
        "is_window_refusal(book, many, value)"],
    "texts": [
        "beam_text(beam)", "book_text(book)", "assignment_text(assignment)", "chain_text(chain)", "read_beam(text)",
        "read_book(text)", "read_assignment(text)", "read_chain(text)"],
    "desk": ["tried(desk, *jobs)"],
}

GENERATORS = {"links", "motion_rows"}

CLASSES = {
    "heads.Head": {
        "methods": [
            "__init__(self, name, left, right, kinds, speed, changes=())", "__eq__(self, other)", "__repr__(self)",
            "speed_at(self, step)", "does(self, kind)", "with_speed(self, speed, *changes)", "mirrored(self)",
            "backward(self)", "later(self, ticks)", "wider(self, more)", "scaled(self, *, parts=1, speed=1)"],
        "properties": ["name", "left", "right", "kinds", "speed", "changes"],
        "values": {"MOST_KINDS": 4, "MOST_CHANGES": 3}},
    "beams.Beam": {
        "methods": [
            "__init__(self, left, right, *heads)", "__eq__(self, other)", "__repr__(self)", "__len__(self)",
            "__contains__(self, name)", "head(self, number)", "number_of(self, name)", "distance(self, i, j)",
            "range_of(self, number)", "are_right(self, places)", "speed_at(self, number, step)",
            "packed(self, *, to_right=False)", "with_head(self, head)", "mirrored(self)", "backward(self)",
            "later(self, ticks)", "moved(self, places)", "wider(self, more)", "scaled(self, *, parts=1, speed=1)"],
        "properties": ["left", "right", "room", "heads"],
        "values": {"MOST_HEADS": 5}},
    "lines.Line": {
        "methods": [
            "__init__(self, tick, place, legs=())", "__eq__(self, other)", "__repr__(self)", "at(self, tick)",
            "__contains__(self, tick)", "corners(self)", "__add__(self, other)", "later(self, ticks)",
            "moved(self, places)", "mirrored(self)", "backward(self)", "scaled(self, *, parts=1)"],
        "class methods": ["through(cls, *corners)"],
        "static methods": ["stay(tick, place, *, ticks=0)"],
        "properties": ["first", "last", "place", "legs", "is_moment", "lowest", "highest"],
        "values": {"MOST_LEGS": 3}},
    "jobs.Job": {
        "methods": [
            "__init__(self, name, kind, line)", "__eq__(self, other)", "__repr__(self)", "on(self, line)",
            "later(self, ticks)", "moved(self, places)", "mirrored(self)", "backward(self)",
            "scaled(self, *, parts=1)"],
        "properties": ["name", "kind", "line"],
        "values": {}},
    "books.Plan": {
        "methods": ["names(self)", "job(self, name)", "__len__(self)", "__contains__(self, name)", "summary(self)"],
        "properties": ["beam", "jobs"],
        "values": {}},
    "books.Book": {
        "methods": [
            "__init__(self, beam, *jobs)", "__eq__(self, other)", "__repr__(self)", "summary(self)",
            "shared(self, one, other)", "with_job(self, job)", "without(self, name)", "with_beam(self, beam)",
            "mirrored(self)", "backward(self)", "later(self, ticks)", "moved(self, places)", "wider(self, more)",
            "scaled(self, *, parts=1, speed=1)"],
        "properties": [],
        "values": {"MOST_JOBS": 8}},
    "turnbooks.TurnBook": {
        "methods": [
            "__init__(self, beam, period, *jobs)", "__eq__(self, other)", "__repr__(self)", "summary(self)",
            "speed_at(self, number, step)", "copy_of(self, name, turn)", "with_job(self, job)",
            "without(self, name)"],
        "properties": ["period"],
        "values": {"MOST_JOBS": 5}},
    "desk.Desk": {
        "methods": [
            "__init__(self, beam, *, limit=None)", "set_limit(self, limit)", "put(self, job)", "drop(self, name)",
            "exchange(self, head)", "undo(self)", "log(self)", "where(self, tick)", "may(self, name)",
            "free(self, name, tick)", "trial(self)", "do(self, command)", "do_all(self, *commands)",
            "try_all(self, *commands)"],
        "properties": ["book", "assignment", "limit"],
        "values": {}},
}


def written(name, function):
    return name + str(inspect.signature(function))


class TestInterface(unittest.TestCase):

    def test_functions(self):
        for file, functions in FUNCTIONS.items():
            module = importlib.import_module(f"beamheads.{file}")
            for text in functions:
                function = getattr(module, text.partition("(")[0])
                self.assertEqual(written(function.__name__, function), text)
                self.assertEqual(function.__module__, f"beamheads.{file}")
                self.assertEqual(inspect.isgeneratorfunction(function), function.__name__ in GENERATORS)

    def test_classes(self):
        for name, parts in CLASSES.items():
            file, _, name = name.partition(".")
            own = importlib.import_module(f"beamheads.{file}")
            found = vars(getattr(own, name))
            self.assertEqual(found["__module__"], f"beamheads.{file}")
            for text in parts["methods"]:
                method = text.partition("(")[0]
                self.assertTrue(inspect.isfunction(found[method]), text)
                self.assertEqual(written(method, found[method]), text)
            for text in parts.get("class methods", []):
                method = text.partition("(")[0]
                self.assertIsInstance(found[method], classmethod)
                self.assertEqual(written(method, found[method].__func__), text)
            for text in parts.get("static methods", []):
                method = text.partition("(")[0]
                self.assertIsInstance(found[method], staticmethod)
                self.assertEqual(written(method, found[method].__func__), text)
            for attribute in parts["properties"]:
                self.assertIsInstance(found[attribute], property)
            for value, wanted in parts["values"].items():
                self.assertEqual(repr(found[value]), repr(wanted))

    def test_base_of_book(self):
        books = importlib.import_module("beamheads.books")
        self.assertEqual(books.Book.__bases__, (books.Plan,))
        self.assertEqual(importlib.import_module("beamheads.turnbooks").TurnBook.__bases__, (books.Plan,))


if __name__ == "__main__":
    unittest.main()

"""The names and arguments that the document's interface tells."""

import importlib
import inspect
import unittest

FUNCTIONS = {
    "kinds": ("count(kind)", "things(kind)", "gift(kind, way, thing)"),
    "programs": ("kind_of(program, names)", "inner(program)", "at_place(program, place)",
                 "replaced(program, place, other)"),
    "names": ("lifted(program, many, least)", "put_in(program, other)"),
    "worlds": ("told(program, row, names)",),
    "tables": ("rows(names)", "table(program, names)"),
    "book": ("is_step(word, one, other, names, through=None)",),
    "walked": ("names_at(program, place, names)", "walked(program, names, row)", "reverse(row)"),
    "running": ("going_on(program)", "run(program, most=10000)"),
    "reckoning": ("steps_of(program)",),
    "plain": ("plain_thing(kind, thing)", "plain_table(names, kind, table)"),
    "leader": ("lead(program, names)",),
    "between": ("between(one, other, names)",),
    "looks": ("part(kind, one, other)", "looked(kind, thing, looks)"),
    "around": ("surrounding(one, other, names)", "surrounded(program, names, row, looks)"),
    "odd": (),
    "kept": ("kept(word, program, names)", "unlike(word)"),
    "writing": ("show_kind(kind)", "show_program(program)", "show_thing(thing)"),
    "reading": ("read_kind(text)", "read_program(text)", "read_thing(text)"),
    "desk": ("answered(kinds, one, other)",),
}


class Interface(unittest.TestCase):
    def test_functions(self):
        for file, functions in FUNCTIONS.items():
            module = importlib.import_module("evenkinds." + file)
            for told in functions:
                called = told.split("(")[0]
                function = getattr(module, called)
                self.assertEqual(called + str(inspect.signature(function)), told)
                self.assertEqual(function.__module__, "evenkinds." + file)


if __name__ == "__main__":
    unittest.main()

"""The interface's names stand in their files; sizes and signs of the files."""

import ast
import inspect
import os
import unittest

import emptywords
from emptywords import benches, books, chains, desk, errors, ground, hands, journals, leading, pairs, spelling
from emptywords import strips, top, words

FOLDER = os.path.dirname(os.path.abspath(emptywords.__file__))
PARAMETERS = {
    strips: {"Strip": "text", "follows": "strip standing", "run": "strip standing most",
             "fate": "strip standing most", "backs": "strip standing"},
    pairs: {"Machine": "text", "goes": "machine pair", "follows": "machine pair", "backs": "machine pair",
            "run": "machine pair most", "comes": "machine pair most"},
    leading: {"led": "strip", "pairs_of": "strip standing", "standing_of": "strip pair",
              "run_led": "strip standing most", "ends_with": "strip standing most"},
    words: {"freed": "machine word", "undone": "machine word", "moved": "pair power", "word_text": "machine word",
            "read_word": "machine text"},
    ground: {"form": "word", "form_word": "form", "times": "one other", "form_undone": "form",
             "moved_form": "form pair", "ground_alike": "one other", "ground_paper": "word",
             "shows_ground_paper": "word value"},
    books: {"row_word": "machine row", "worth": "machine row", "book": "machine",
            "exchanged": "machine word exchange", "product_word": "machine product",
            "is_product": "machine word value", "singles": "machine product",
            "product_of": "machine word exchanges"},
    hands: {"passed": "machine hand form way", "lacks": "machine hand form way", "tower": "machine word",
            "tower_word": "machine tower", "hands_of": "machine tower", "is_empty": "machine word",
            "alike": "machine one other", "why": "machine word", "shows_why": "machine word value"},
    spelling: {"hands_word": "machine pair most", "spelled_word": "machine pair most",
               "spelled_paper": "machine pair most", "led_by": "machine pair hands", "run_in": "machine hands",
               "linked": "machine one other most", "linking_paper": "machine one other most"},
    top: {"lot": "machine word most", "shows_lot": "machine word most value", "verdict": "machine word most",
          "top_why": "machine word most", "shows_top_why": "machine word most value", "word_of_pair": "pair"},
    chains: {"dents": "strip chain", "straight": "strip chain", "joined": "strip one other most"},
    benches: {"Bench": "text"},
    journals: {"journal": "bench", "read_journal": "text"},
    desk: {"Desk": "text"},
}
METHODS = {
    benches.Bench: {"begin": "self word", "exchange": "self at cut row sign", "product": "self", "verdict": "self most", "undo": "self",
                    "redo": "self", "tried": "self look keep", "keep": "self", "copy": "self", "__len__": "self", "__eq__": "self other"},
    desk.Desk: {"say": "self line"},
    pairs.Machine: {"__eq__": "self other"},
    strips.Strip: {"__eq__": "self other"},
}


def sources():
    for name in sorted(os.listdir(FOLDER)):
        if name.endswith(".py"):
            with open(os.path.join(FOLDER, name), encoding="utf-8") as file:
                yield name, file.read()


class Layout(unittest.TestCase):
    def test_names_are_defined_in_their_files_with_their_parameters(self):
        for module, told in PARAMETERS.items():
            for name, parameters in told.items():
                with self.subTest(name, module=module.__name__):
                    look = getattr(module, name)
                    self.assertEqual(look.__module__, module.__name__)
                    self.assertEqual(list(inspect.signature(look).parameters), parameters.split(" "))

    def test_methods_are_defined_in_their_classes(self):
        for owner, told in METHODS.items():
            for name, parameters in told.items():
                with self.subTest(name, owner=owner.__name__):
                    self.assertEqual(list(inspect.signature(vars(owner)[name]).parameters), parameters.split(" "))
        keep = inspect.signature(benches.Bench.tried).parameters["keep"]
        self.assertEqual((keep.kind, keep.default), (inspect.Parameter.KEYWORD_ONLY, False))

    def test_properties_are_set_when_objects_are_made(self):
        text = "figures 2\nrow 1 0 0 right"
        for made, names in ((strips.Strip("marks 2\nstates 1\nrow 0 0 0 left 0"), "text marks states rows"),
                            (pairs.Machine(text), "text figures rows"), (benches.Bench(text), "machine beginning word deeds"),
                            (desk.Desk(text + "\ndeeds"), "bench")):
            for name in names.split(" "):
                self.assertIn(name, vars(made))

    def test_errors_are_defined_in_their_file(self):
        for name in ("WordError", "BadMost", "BadTask"):
            self.assertEqual(getattr(errors, name).__module__, "emptywords.errors")

    def test_sizes_and_signs(self):
        for name, text in sources():
            with self.subTest(name):
                self.assertLessEqual(text.count("\n"), 399)
                for line in text.split("\n"):
                    self.assertLessEqual(len(line), 120)
                    self.assertTrue(all(" " <= sign <= "~" for sign in line))
                for node in ast.walk(ast.parse(text)):
                    if isinstance(node, ast.FunctionDef):
                        self.assertLessEqual(node.end_lineno - node.lineno + 1, 40)

    def test_imports_come_from_the_package_alone(self):
        for name, text in sources():
            for node in ast.walk(ast.parse(text)):
                with self.subTest(name):
                    self.assertNotIsInstance(node, ast.Import)
                    if isinstance(node, ast.ImportFrom):
                        self.assertEqual((node.level, node.module.split(".")[0]), (0, "emptywords"))


if __name__ == "__main__":
    unittest.main()

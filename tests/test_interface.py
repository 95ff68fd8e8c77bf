import unittest
from importlib import import_module
from inspect import getfile, isclass, signature
from os.path import basename

from towerstair.answers import Answer

FUNCTIONS = {
    "stairs": {"counts": ["stairs"], "filled": ["stairs", "more"]},
    "ways": {"way_of": ["stairs", "many", "number"], "number_of": ["stairs", "towers"]},
    "telling": {"fullest": ["stairs"], "plain": ["stairs"], "alike": ["one", "other"]},
    "texts": {"written": ["stairs"], "read": ["text"]},
}

ANSWERS = {"Most": ["towers", "rows"], "Alike": [], "Unlike": ["many"]}

SHOWS = {"Most": ["self", "stairs"], "Alike": ["self", "one", "other"], "Unlike": ["self", "one", "other"]}


def names(told):
    return list(signature(told).parameters)


class Interface(unittest.TestCase):
    def test_functions_stand_in_their_files(self):
        for file, functions in FUNCTIONS.items():
            module = import_module("towerstair." + file)
            for name, parameters in functions.items():
                with self.subTest(name=name):
                    told = getattr(module, name)
                    self.assertFalse(isclass(told))
                    self.assertEqual(told.__module__, "towerstair." + file)
                    self.assertEqual(basename(told.__code__.co_filename), file + ".py")
                    self.assertEqual(names(told), parameters)

    def test_answers_stand_in_their_file(self):
        module = import_module("towerstair.answers")
        for name in ["Answer", *ANSWERS]:
            told = getattr(module, name)
            self.assertTrue(isclass(told))
            self.assertEqual((told.__module__, basename(getfile(told))), ("towerstair.answers", "answers.py"))

    def test_answers_are_straight_under_answer(self):
        module = import_module("towerstair.answers")
        self.assertEqual(Answer.__bases__, (object,))
        for name, fields in ANSWERS.items():
            told = getattr(module, name)
            self.assertEqual(told.__bases__, (Answer,))
            self.assertEqual(names(told), fields)

    def test_each_answer_has_its_own_shows(self):
        module = import_module("towerstair.answers")
        for name, parameters in SHOWS.items():
            self.assertIn("shows", vars(getattr(module, name)))
            self.assertEqual(names(vars(getattr(module, name))["shows"]), parameters)


if __name__ == "__main__":
    unittest.main()

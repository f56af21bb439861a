"""The examples of DOC.md, as they stand there, and those of README.md."""

import doctest
import os
import re
import unittest

HERE = os.path.dirname(os.path.abspath(__file__))
FOLDER = os.path.join(HERE, "examples")
NAMES = "children cuts desk first flat forests forms grants inside machine need runs steps".split()


class Examples(unittest.TestCase):
    def holds(self, text, name):
        told = doctest.DocTestRunner().run(doctest.DocTestParser().get_doctest(text, {}, name, name, 0))
        self.assertGreater(told.attempted, 0)
        self.assertEqual(told.failed, 0)

    def test_each_example(self):
        names = sorted(os.listdir(FOLDER))
        self.assertEqual(names, [name + ".txt" for name in NAMES])
        for name in names:
            with self.subTest(name=name), open(os.path.join(FOLDER, name), encoding="utf-8") as file:
                self.holds(file.read(), name)

    def test_readme(self):
        with open(os.path.join(os.path.dirname(HERE), "README.md"), encoding="utf-8") as file:
            for block in re.findall(r"```\n(.*?)```", file.read(), re.DOTALL):
                self.holds(block, "README.md")

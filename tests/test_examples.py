"""The examples at the end of the document, word for word, as far as their modules are written."""

import doctest
import unittest

from undertap.courses import run_of
from undertap.houses import House
from undertap.rules import Rule

EXAMPLES = ("""
>>> from undertap.houses import House
>>> from undertap.rules import Rule
>>> from undertap.wishes import breaker_of, wish_holds
>>> free = House(Rule("front", 0, 0, 0, 0), 2, 0, 1, False, (1, 1))
>>> held = House(Rule("front", 0, 1, 0, 0), 2, 0, 1, False, (1, 1))
>>> guarded = House(Rule("front", 0, 0, 0, 1), 2, 0, 1, False, (1, 1))
>>> (wish_holds(free, "other"), wish_holds(held, "other"), wish_holds(guarded, "other"), len(breaker_of(free, "other")))
(False, True, True, 2)
""",)


class Examples(unittest.TestCase):
    def test_each_gives_what_the_document_says(self):
        for number, text in enumerate(EXAMPLES):
            example = doctest.DocTestParser().get_doctest(text, {}, f"example {number}", None, None)
            told = []
            result = doctest.DocTestRunner(verbose=False).run(example, out=told.append)
            self.assertGreater(result.attempted, 0)
            self.assertEqual(result.failed, 0, "".join(told))

    def test_the_second_one_as_far_as_it_runs_a_course(self):
        free = House(Rule("front", 0, 0, 0, 0), 2, 0, 1, False, (1, 1))
        rows = run_of(free, [(("come", 0), ("look", 0)), (("come", 0), ("tap",))])
        self.assertEqual(rows, [(((0, False),), (), ""), (((0, False), (0, False)), (), "other")])


if __name__ == "__main__":
    unittest.main()

"""The examples at the end of the document, word for word."""

import doctest
import unittest

EXAMPLES = ("""
>>> from undertap.houses import House
>>> from undertap.rules import Rule
>>> from undertap.wishes import breaker_of, wish_holds
>>> free = House(Rule("front", 0, 0, 0, 0), 2, 0, 1, False, (1, 1))
>>> held = House(Rule("front", 0, 1, 0, 0), 2, 0, 1, False, (1, 1))
>>> guarded = House(Rule("front", 0, 0, 0, 1), 2, 0, 1, False, (1, 1))
>>> (wish_holds(free, "other"), wish_holds(held, "other"), wish_holds(guarded, "other"), len(breaker_of(free, "other")))
(False, True, True, 2)
""", """
>>> from undertap.back import changes_back
>>> from undertap.courses import run_of
>>> from undertap.houses import House
>>> from undertap.rules import Rule
>>> free = House(Rule("front", 0, 0, 0, 0), 2, 0, 1, False, (1, 1))
>>> rows = run_of(free, [(("come", 0), ("look", 0)), (("come", 0), ("tap",))])
>>> (rows, changes_back(free, [(0,), (0, 0)]))
([(((0, False),), (), ''), (((0, False), (0, False)), (), 'other')], [(('come', 0),), (('come', 0),)])
""", r"""
>>> from undertap.desk import Desk
>>> desk = Desk("rule front 0 1 0 0\nroom 2\ntop 0\nmany 1\ngoes no\nlag 1 1\n")
>>> ticks = [desk.reply("tick come 0; look 0"), desk.reply("tick come 0; tap"), desk.reply("shown")]
>>> later = [desk.reply("tick none; none"), desk.reply("shown"), desk.reply("wish other")]
>>> ticks + later
['ok', 'right', '0', 'ok', '0 0', 'holds']
""")


class Examples(unittest.TestCase):
    def test_each_gives_what_the_document_says(self):
        for number, text in enumerate(EXAMPLES):
            example = doctest.DocTestParser().get_doctest(text, {}, f"example {number}", None, None)
            told = []
            result = doctest.DocTestRunner(verbose=False).run(example, out=told.append)
            self.assertGreater(result.attempted, 4)
            self.assertEqual(result.failed, 0, "".join(told))


if __name__ == "__main__":
    unittest.main()
